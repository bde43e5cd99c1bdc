"""Transports of goods from stores to shops, the prices that show them cheapest, and pairings."""

from itertools import permutations

from costpapers.checks import MOST_COLUMNS, are_numbers, check_table, is_an_integer, is_index, is_number
from costpapers.errors import BadNumber, BadTable, BadTransport
from costpapers.other import best_plans, equal_row, first_of, is_one, unit
from costpapers.solve import least_over, span_over
from costpapers.tasks import opposite

MOST_PLACES = 3
MOST_PAIRED = 3


def are_amounts(value):
    """Tell whether a value is a tuple of what stores, or shops, of a transport have."""
    if not isinstance(value, tuple) or not 1 <= len(value) <= MOST_PLACES:
        return False
    return all([is_number(item) and item >= 0 for item in value])


def is_transport(value):
    """Tell whether a value is a transport."""
    if not isinstance(value, tuple) or len(value) != 3:
        return False
    stores, shops, costs = value
    if not are_amounts(stores) or not are_amounts(shops):
        return False
    if not isinstance(costs, tuple) or len(costs) != len(stores):
        return False
    return all([are_numbers(line, len(shops)) for line in costs])


def check_transport(transport):
    """Raise BadTransport for a value that is no transport."""
    if not is_transport(transport):
        raise BadTransport()


def are_counts(value, many):
    """Tell whether a value is a tuple of so many integers not below 0."""
    if not isinstance(value, tuple) or len(value) != many:
        return False
    return all([is_an_integer(item) and item >= 0 for item in value])


def is_goods(transport, value):
    """Tell whether a value is a table of goods of a transport."""
    stores, shops, _ = transport
    if not isinstance(value, tuple) or len(value) != len(stores):
        return False
    if not all([are_counts(line, len(shops)) for line in value]):
        return False
    if any([sum(line) > store for line, store in zip(value, stores)]):
        return False
    return all([sum([line[at] for line in value]) >= shop for at, shop in enumerate(shops)])


def task_of(transport):
    """The task of a transport, of any number of columns."""
    stores, shops, costs = transport
    many = len(shops)
    rows = []
    for index, store in enumerate(stores):
        rows.append((tuple([1 if at == index else 0 for at in range(len(stores)) for _ in shops]), "<=", store))
    for index, shop in enumerate(shops):
        rows.append((unit(many, index) * len(stores), ">=", shop))
    prices = tuple([number for line in costs for number in line])
    return ("+" * len(prices), prices, tuple(rows))


def least_cost(transport):
    """The least cost of a table of goods as an integer, None if there is none."""
    kinds, costs, rows = task_of(transport)
    # The corners of the task are whole, and so is what the best ones cost.
    least = least_over(kinds, rows, costs)
    return None if least is None else least[0]


def are_prices(transport, prices, others):
    """Tell whether two values are prices at the stores and at the shops of a transport."""
    stores, shops, costs = transport
    if not are_counts(prices, len(stores)) or not are_counts(others, len(shops)):
        return False
    for price, line in zip(prices, costs):
        if any([other > price + number for other, number in zip(others, line)]):
            return False
    return True


def rows_of_prices(transport):
    """The rows that prices keep, told as those at stores with those at shops behind them."""
    stores, shops, costs = transport
    rows = []
    for index, line in enumerate(costs):
        for at, number in enumerate(line):
            rows.append((opposite(unit(len(stores), index)) + unit(len(shops), at), "<=", number))
    return tuple(rows)


def check_square(table):
    """Raise BadTable for a value that is no square table."""
    check_table(table)
    if len(table) != len(table[0]):
        raise BadTable()


def sum_of_pairing(table, columns):
    """The sum of the numbers of a table, one in each row, in the columns that are told."""
    return sum([row[column] for row, column in zip(table, columns)])


def least_pairings(table):
    """The least sum of numbers, one in each row and column, and the pairings that have it, ascending."""
    told = list(permutations(list(range(len(table)))))
    least = min([sum_of_pairing(table, columns) for columns in told])
    return least, [columns for columns in told if sum_of_pairing(table, columns) == least]


def is_table(transport, value):
    """Tell whether a value is a table of goods."""
    check_transport(transport)
    return is_goods(transport, value)


def table_cost(transport, value):
    """The cost of a table of goods."""
    check_transport(transport)
    if not is_goods(transport, value):
        raise BadTable()
    return sum([good * number for goods, line in zip(value, transport[2]) for good, number in zip(goods, line)])


def transport_task(transport):
    """The task of a transport."""
    check_transport(transport)
    if len(transport[0]) * len(transport[1]) > MOST_COLUMNS:
        raise BadNumber()
    return task_of(transport)


def least_transport(transport):
    """The least cost of a table of goods, None if there is none."""
    check_transport(transport)
    return least_cost(transport)


def first_table(transport):
    """The cheapest table of goods that is least place by place, None if there is none."""
    check_transport(transport)
    if least_cost(transport) is None:
        return None
    kinds, rows = best_plans(task_of(transport))
    # What is least place by place is a corner, and so it is whole.
    goods = tuple([top for top, _ in first_of(kinds, rows)])
    many = len(transport[1])
    return tuple([goods[at * many:at * many + many] for at in range(len(transport[0]))])


def is_one_table(transport):
    """Tell whether the task of a transport has just one best plan."""
    check_transport(transport)
    kinds, rows = best_plans(task_of(transport))
    return is_one(kinds, rows)


def goods_range(transport, store, shop):
    """The least and the greatest amount from a store to a shop over all best plans."""
    check_transport(transport)
    stores, shops, _ = transport
    if not is_index(store, len(stores)) or not is_index(shop, len(shops)):
        raise BadTransport()
    kinds, rows = best_plans(task_of(transport))
    low, high = span_over(kinds, rows, unit(len(kinds), store * len(shops) + shop))
    return (low[0], high[0])


def shows_prices(transport, prices, others):
    """Tell whether two values are prices at stores and prices at shops."""
    check_transport(transport)
    return are_prices(transport, prices, others)


def promised(transport, prices, others):
    """The sum of the products of shops' prices and numbers, less that of stores'."""
    check_transport(transport)
    if not are_prices(transport, prices, others):
        raise BadTable()
    stores, shops, _ = transport
    earned = sum([other * shop for other, shop in zip(others, shops)])
    return earned - sum([price * store for price, store in zip(prices, stores)])


def first_prices(transport):
    """The prices that promise the least cost and are least place by place, None if there is no least cost."""
    check_transport(transport)
    least = least_cost(transport)
    if least is None:
        return None
    stores, shops, _ = transport
    promise = equal_row(opposite(stores) + shops, (least, 1))
    told = first_of("+" * (len(stores) + len(shops)), rows_of_prices(transport) + (promise,))
    prices = tuple([top for top, _ in told])
    return (prices[:len(stores)], prices[len(stores):])


def least_pairing(table):
    """The least sum of numbers of a square table, one in each row and each column."""
    check_square(table)
    least, _ = least_pairings(table)
    return least


def first_pairing(table):
    """The first one of the tuples that tell for each row the column of a least pairing."""
    check_square(table)
    _, told = least_pairings(table)
    return told[0]


def count_pairings(table):
    """How many pairings have the least sum."""
    check_square(table)
    _, told = least_pairings(table)
    return len(told)


def pairing_task(table):
    """The transport whose tables of goods are the pairings of a square table of at most three rows."""
    check_square(table)
    if len(table) > MOST_PAIRED:
        raise BadTable()
    ones = (1,) * len(table)
    return (ones, ones, table)
