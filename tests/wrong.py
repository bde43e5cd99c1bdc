"""Values that are not allowed for one argument or another, most of them nearly allowed."""

from tests.samples import FOOD, NO_RATIOS, STRANGERS, put


def is_int(value):
    return type(value) is int


def is_number(value):
    return is_int(value) and -1000 <= value <= 1000


def no_frames():
    """Values that are no tasks by their first two items, or by what the third one is."""
    for value in STRANGERS + (list(FOOD), FOOD + (0,), FOOD[:2], (FOOD,), dict(enumerate(FOOD))):
        yield value
    for value in STRANGERS + ("+", "+++", "+ ", "-+", ("+", "+"), ["+", "+"], "+++++++"):
        yield put(FOOD, (0,), value)
    for value in STRANGERS + ((2,), (2, 3, 4), [2, 3], {2: 3}):
        yield put(FOOD, (1,), value)
    for value in STRANGERS + (1001, -1001, (2,)):
        if not is_number(value):
            yield put(FOOD, (1, 1), value)
    for value in STRANGERS + (list(FOOD[2]), FOOD[2] * 3, (None,) * 9):
        if not isinstance(value, tuple) or len(value) > 8:
            yield put(FOOD, (2,), value)
    yield ("", (), ())
    yield ("+" * 7, (0,) * 7, ())
    yield ("+", (1001,), ())
    yield ("+", (-1001,), ())
    yield ("+", (True,), ())


def no_rows():
    """Values that are no rows of two columns."""
    row = ((1, 2), ">=", 8)
    for value in STRANGERS + (list(row), row[:2], row + (0,), (row,), dict(enumerate(row))):
        yield value
    for value in STRANGERS + ((1,), (1, 2, 3), [1, 2], {1: 2}):
        yield put(row, (0,), value)
    for value in STRANGERS + (1001, -1001, (1,)):
        if not is_number(value):
            yield put(row, (0, 0), value)
            yield put(row, (0, 1), value)
            yield put(row, (2,), value)
    for value in STRANGERS + (">", "<", "==", "=>", "=<", ">= ", "!=", (">=",), [">="]):
        yield put(row, (1,), value)


def no_plans():
    """Values that are no ratios for two columns."""
    for value in STRANGERS + (((1, 1),), ((1, 1),) * 3, [(1, 1), (1, 1)], ((1, 1), [1, 1]), {(1, 1): (2, 1)}, (1, 1)):
        yield value
    for value in NO_RATIOS:
        yield ((1, 1), value)
        yield (value, (1, 1))


def no_indexes(task):
    """Values that are not the index of a row."""
    for value in STRANGERS + (-len(task[2]), len(task[2]), 10 ** 30, "0", (0,), [0], (0, 1)):
        if not is_int(value) or not 0 <= value < len(task[2]):
            yield value


def no_weights():
    """Values that are not a ratio for each of three rows."""
    for value in STRANGERS + (((1, 1),), ((1, 1),) * 2, ((1, 1),) * 4, [(1, 1)] * 3, {(1, 1): 2}, (1, 1, 1)):
        yield value
    for value in NO_RATIOS:
        for at in range(3):
            yield put(((1, 1), (0, 1), (-1, 2)), (at,), value)


def no_lists_of(many):
    """Values that are no tuples of so many integers from -1000 to 1000."""
    for value in STRANGERS + ((1,) * (many - 1), (1,) * (many + 1), [1] * many, dict.fromkeys(range(many)), ((1,),)):
        if not (isinstance(value, tuple) and len(value) == many and all(map(is_number, value))):
            yield value
    for value in STRANGERS + (1001, -1001, 10 ** 30, (1,), (1, 1)):
        if not is_number(value):
            for at in range(many):
                yield put((1,) * many, (at,), value)


def no_columns(task):
    """Values that are not the index of a column."""
    for value in STRANGERS + (-len(task[0]), len(task[0]), 10 ** 30, "0", (0,), [0], (0, 1)):
        if not is_int(value) or not 0 <= value < len(task[0]):
            yield value


def no_tables():
    """Values that are no tables."""
    table = ((3, -1), (-2, 1))
    for value in STRANGERS + (list(table), {0: (1, 2)}, ((),), ((), ()), ((1, 2), (3,)), ((1,), (2, 3)), (table,), "ab"):
        if value != ((1, 1),) * 7:
            yield value
    yield ((1,),) * 6
    yield ((1, 2),) * 6
    yield ((1,) * 6,)
    yield ((1,) * 6,) * 2
    yield ((1, 2), [3, 4])
    yield ((1, 2), None)
    yield (None, (1, 2))
    for value in STRANGERS + (1001, -1001, (1,), 10 ** 30):
        if not is_number(value):
            for place in ((0, 0), (0, 1), (1, 0), (1, 1)):
                yield put(table, place, value)


def no_mixes():
    """Values that are no mixes of two."""
    yield from no_plans()
    for value in (((1, 2), (1, 3)), ((0, 1), (0, 1)), ((1, 1), (1, 1)), ((3, 2), (-1, 2)), ((-1, 1), (2, 1)), ((2, 1), (-1, 1))):
        yield value
    yield ((1, 1),)
    yield ((1, 2), (1, 4), (1, 4))


def no_squares():
    """Values that are no square tables."""
    yield from no_tables()
    for many, width in ((1, 2), (2, 1), (2, 3), (3, 2), (4, 5), (5, 4), (1, 5), (5, 1)):
        yield ((0,) * width,) * many


def no_transports():
    """Values that are no transports, changed from one of two stores and two shops."""
    goods = ((3, 2), (2, 2), ((1, 4), (2, 1)))
    for value in STRANGERS + (list(goods), goods + (0,), goods[:2], (goods,), dict(enumerate(goods)), goods[::-1]):
        yield value
    for value in STRANGERS + ((1, -1), (1001, 0), [3, 2], {3: 2}, (3, 2, 1), (3,), (1, 1, 1, 1), (0, 0, True)):
        yield put(goods, (0,), value)
        yield put(goods, (1,), value)
    for value in STRANGERS + ([(1, 4), (2, 1)], goods[2][:1], goods[2] * 2, {(1, 4): (2, 1)}, goods[2] + ((0, 0),), 5):
        yield put(goods, (2,), value)
    for value in STRANGERS + ((1,), [1, 4], {1: 4}, (1, 4, 0), (1001, 0), (-1001, 0)):
        yield put(goods, (2, 0), value)
        yield put(goods, (2, 1), value)
    for value in STRANGERS + (1001, 10 ** 30, (1,), "0"):
        if not is_number(value):
            for place in ((0, 0), (0, 1), (1, 0), (1, 1), (2, 0, 0), (2, 0, 1), (2, 1, 0), (2, 1, 1)):
                yield put(goods, place, value)
    for place in ((0, 0), (0, 1), (1, 0), (1, 1)):
        yield put(goods, place, -1)
    for place in ((2, 0, 0), (2, 1, 1)):
        yield put(goods, place, -1001)
    yield ((), (), ())
    yield ((), (1,), ())
    yield ((1,), (), ((),))
    yield ((1,) * 4, (1,), ((1,),) * 4)
    yield ((1,), (1,) * 4, ((1,) * 4,))


def no_counts_of(many):
    """Values that are no tuples of so many integers not below 0."""
    for value in STRANGERS + ((1,) * (many - 1), (1,) * (many + 1), [1] * many, dict.fromkeys(range(many)), ((1,),)):
        yield value
    for value in STRANGERS + (-1, -1000, (1,), (1, 1), "1"):
        if not is_int(value) or value < 0:
            for at in range(many):
                yield put((1,) * many, (at,), value)


def no_goods():
    """Values that are no tables of goods of stores (3, 2) and shops (2, 2)."""
    goods = ((2, 0), (0, 2))
    for value in STRANGERS + (list(goods), goods + ((0, 0),), goods[:1], {(2, 0): (0, 2)}, (2, 0, 0, 2), "ab"):
        yield value
    for value in no_counts_of(2):
        yield put(goods, (0,), value)
        yield put(goods, (1,), value)
    for value in (((2, 0), (0, 1)), ((1, 0), (0, 2)), ((3, 1), (0, 2)), ((0, 2), (3, 0)), ((0, 0), (0, 0))):
        yield value
    for value in (((2, -1), (0, 3)), ((3, 0), (-1, 2)), (((2, 1), (0, 1)), ((0, 1), (2, 1)))):
        yield value


def no_places(many):
    """Values that are not the index of one of so many."""
    for value in STRANGERS + (-many, many, 10 ** 30, "0", (0,), [0], (0, 1)):
        if not is_int(value) or not 0 <= value < many:
            yield value


def no_nets():
    """Values that are no nets, changed from one of four places and five arcs."""
    net = (4, ((0, 1, 3), (0, 2, 2), (1, 2, 1), (1, 3, 2), (2, 3, 4)))
    for value in STRANGERS + (list(net), net + (0,), net[:1], (net,), dict([net]), net[::-1], net[1]):
        yield value
    for value in STRANGERS + (2, 3, 7, -4, "4", (4,), 10 ** 30):
        yield put(net, (0,), value)
    for value in STRANGERS + (list(net[1]), net[1] * 2, (net[1],), {(0, 1, 3): (0, 2, 2)}, (0, 1, 3)):
        yield put(net, (1,), value)
    for value in STRANGERS + ([0, 1, 3], {0: 1}, (0, 1), (0, 1, 3, 0), (0, 0, 3), (3, 3, 0), (4, 0, 1), (0, 4, 1)):
        if value != (1, 2, 3):
            yield put(net, (1, 0), value)
            yield put(net, (1, 4), value)
    for value in STRANGERS + (-1, 4, "0", (0,), 10 ** 30):
        if not is_int(value) or not 0 <= value < 4:
            yield put(net, (1, 2, 0), value)
            yield put(net, (1, 2, 1), value)
    for value in STRANGERS + (-1, 1001, "0", (0,), 10 ** 30):
        if not is_int(value) or not 0 <= value <= 1000:
            yield put(net, (1, 2, 2), value)
    yield (1, ())
    yield (2, ())
    yield (1, ((0, 0, 1),))
    yield (0, ((0, 1, 1),))
    yield (2, ((0, 1, 1),) * 9)
    yield (7, ((0, 1, 1),))


def no_mark():
    """Values that are no marks."""
    for value in STRANGERS + ((1,), (1, 2, 3), [1, 2], {1: 2}, ((1, 2),)):
        yield value
    for value in STRANGERS + (1001, -1001, "1", (1,), (1, 2), 10 ** 30):
        if not is_number(value):
            yield (value, 1)
            yield (1, value)


def no_marks():
    """Values that are no tuples of one to six marks."""
    marks = ((0, 0), (1, 2), (2, 0))
    for value in STRANGERS + (list(marks), {(0, 0): (1, 2)}, marks[0], (marks,), marks * 3, ((0, 0),) * 7, (None,)):
        yield value
    for value in no_mark():
        for at in range(3):
            yield put(marks, (at,), value)


def no_numbers():
    """Values that are no tuples of one to six integers from -1000 to 1000."""
    for value in STRANGERS + ([5, 1], {5: 1}, (5,) * 7, ((5, 1),), "51"):
        if value not in ((0,), (1,), (1, 2, 3)):
            yield value
    yield (True,)
    for value in STRANGERS + (1001, -1001, "1", (1,), 10 ** 30):
        if not is_number(value):
            for at in range(4):
                yield put((5, 1, 9, 3), (at,), value)


def no_orders(many):
    """Values that do not tell so many indexes, each once."""
    rising = tuple(range(many))
    for value in STRANGERS + (list(rising), rising[1:], rising + rising[:1], rising + (many,), dict.fromkeys(rising)):
        yield value
    for at in rising:
        for value in STRANGERS + (-1, many, 10 ** 30, "0", (0,), rising[at - 1]):
            if not is_int(value) or value != at:
                yield put(rising, (at,), value)


def no_factors(many):
    """Values that are no tuples of so many integers from 1 to 1000."""
    for value in STRANGERS + ((2,) * (many - 1), (2,) * (many + 1), [2] * many, dict.fromkeys(range(many)), ((2,),)):
        if len(value if isinstance(value, tuple) else ()) != many or not all(map(is_number, value)):
            yield value
    for value in STRANGERS + (0, -1, 1001, 10 ** 30, "2", (2,), (1, 2)):
        if not is_int(value) or not 1 <= value <= 1000:
            for at in range(many):
                yield put((2,) * many, (at,), value)


def no_texts():
    """Values that are no strings, or too long ones."""
    for value in STRANGERS + (["a: a"], ("a: a",), "a" * 1001, "a: 0" + "; a=1" * 200, " " * 10000):
        if not isinstance(value, str) or len(value) > 1000:
            yield value
