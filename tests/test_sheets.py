"""A sheet and its steps: promises 1 and 29."""

import random
from fractions import Fraction

from costpapers.errors import BadStep, BadTask, NoStep, NotSimple
from costpapers.sheets import Sheet
from costpapers.solve import best_cost, ending
from tests import reckon
from tests.reckon import dot, pair
from tests.samples import FOOD, FULL, MIXED, STRANGERS, Case, put, shape
from tests.wrong import no_frames, no_rows

PLANTS = ("++", (-3, -5), (((1, 0), "<=", 4), ((0, 2), "<=", 12), ((3, 2), "<=", 18)))
ENDLESS = ("++", (-1, -1), (((1, -1), "<=", 2),))
SLOW = ("++", (1, -1), (((1, -1), "<=", 2), ((-1, 1), "<=", 3)))
BARE = ("++", (1, -2), ())
PLAIN = ("+++", (1, 0, 2), ())
STUCK = ("++", (-1, -2), (((1, 1), "<=", 0), ((1, -1), "<=", 0), ((2, 1), "<=", 0)))
SAME = ("++", (-1, -1), (((1, 0), "<=", 2), ((2, 0), "<=", 4), ((3, 1), "<=", 6)))
# Steps by the column with the least left cost could go round in a ring here.
RING = ("+++", (-10, 57, 9), (((1, -11, -5), "<=", 0), ((1, -3, -1), "<=", 0), ((2, 0, 0), "<=", 2)))
ZERO = ("+", (-5,), (((0,), "<=", 3), ((-2,), "<=", 0)))
LARGEST = ("+" * 6, (-1000,) * 6, tuple((tuple(1000 - 7 * at * index for at in range(6)), "<=", 1000) for index in range(8)))
TASKS = (PLANTS, ENDLESS, SLOW, BARE, PLAIN, STUCK, SAME, RING, ZERO, LARGEST)


def some_tasks():
    """Simple tasks."""
    yield from TASKS
    chance = random.Random(151)
    for reach, many in ((1, 60), (3, 80), (9, 40), (1000, 20)):
        for _ in range(many):
            width = chance.randint(1, 6 if reach > 1 else 3)
            yield "+" * width, reckon.numbers_from(chance, width, reach), tuple(
                (reckon.numbers_from(chance, width, reach), "<=", chance.choice((0, 1, 1)) * chance.randint(0, reach))
                for _ in range(chance.randint(0, 6))
            )


def equations(task):
    """The numbers and right sides of the equations, over all columns."""
    kinds, _, rows = task
    return [(numbers + reckon.one_at(len(rows), index), right) for index, (numbers, _, right) in enumerate(rows)]


def columns_at(task, base, grown=None):
    """All columns if those not in the base are 0, but for one that is 1."""
    many = len(task[0]) + len(task[2])
    fixed = [(reckon.one_at(many, at), int(at == grown)) for at in range(many) if at not in base]
    told = reckon.settled([(*numbers, right) for numbers, right in [*equations(task), *fixed]])
    found = {reckon.first_place(row): row[-1] for row in told}
    assert sorted(found) == list(range(many)), (task, base)
    return [found[at] for at in range(many)]


def cost_of(task, columns):
    return dot(task[1], columns)


def left_costs(task, base):
    now = cost_of(task, columns_at(task, base))
    many = len(task[0]) + len(task[2])
    return [Fraction(0) if at in base else cost_of(task, columns_at(task, base, at)) - now for at in range(many)]


def leaving(task, base, column):
    """The columns of the base that are 0 first if a column grows."""
    now, then = columns_at(task, base), columns_at(task, base, column)
    ends = {at: now[at] / (now[at] - then[at]) for at in base if then[at] < now[at]}
    return tuple(sorted(at for at in ends if ends[at] == min(ends.values())))


def state(sheet):
    """All that a sheet tells."""
    outside = [at for at in range(len(sheet.plan)) if at not in sheet.base]
    return shape((sheet.base, sheet.plan, sheet.cost, sheet.steps, sheet.left_costs(), sheet.entering(),
                  tuple(sheet.leaving(at) for at in outside), sheet.is_best(), sheet.is_endless()))


class SheetCase(Case):
    def tells(self, sheet, task, base, steps):
        """The sheet tells what the equations do for a base."""
        columns = columns_at(task, base)
        costs = left_costs(task, base)
        entering = tuple(at for at, number in enumerate(costs) if number < 0)
        outside = [at for at in range(len(columns)) if at not in base]
        self.same(sheet.base, tuple(sorted(base)))
        self.same(sheet.plan, tuple(pair(item) for item in columns))
        self.same(sheet.cost, pair(cost_of(task, columns)))
        self.same(sheet.steps, steps)
        self.same(sheet.left_costs(), tuple(pair(number) for number in costs))
        self.same(sheet.entering(), entering)
        for column in outside:
            self.same(sheet.leaving(column), leaving(task, base, column))
        self.same(sheet.is_best(), not entering)
        self.same(sheet.is_endless(), any(not leaving(task, base, column) for column in entering))
        # A column not in the base grows from a plan to a plan.
        self.assertGreaterEqual(min(columns, default=0), 0)

    def same(self, answer, expected):
        self.assertEqual(shape(answer), shape(expected))


class ExamplesTest(SheetCase):
    def test_examples(self):
        sheet = Sheet(PLANTS)
        self.same(sheet.base, (2, 3, 4))
        self.same(sheet.entering(), (0, 1))
        self.same(sheet.leaving(0), (2,))
        self.assertIsNone(sheet.step(0, 2))
        self.same(sheet.cost, (-12, 1))
        self.same(sheet.left_costs(), ((0, 1), (-5, 1), (3, 1), (0, 1), (0, 1)))
        self.same(sheet.run(), 2)
        self.same(sheet.plan, ((2, 1), (6, 1), (2, 1), (0, 1), (0, 1)))
        self.same(sheet.is_best(), True)
        self.assertIsNone(sheet.undo())
        self.same(sheet.steps, 2)


class StepsTest(SheetCase):
    def test_at_first(self):
        for task in some_tasks():
            kinds, costs, rows = task
            sheet = Sheet(task)
            many = len(kinds)
            self.same(sheet.base, tuple(range(many, many + len(rows))))
            self.same(sheet.plan, ((0, 1),) * many + tuple((row[2], 1) for row in rows))
            self.same(sheet.cost, (0, 1))
            self.same(sheet.steps, 0)
            self.same(sheet.left_costs(), tuple((number, 1) for number in costs + (0,) * len(rows)))
            self.tells(sheet, task, list(range(many, many + len(rows))), 0)

    def test_any_steps(self):
        chance, made, back, several = random.Random(152), 0, 0, 0
        for task in [*TASKS, *list(some_tasks())[len(TASKS)::3]]:
            many = len(task[0]) + len(task[2])
            sheet, past = Sheet(task), [tuple(range(len(task[0]), many))]
            for _ in range(6):
                base = past[-1]
                moves = [(column, other) for column in range(many) if column not in base
                         for other in leaving(task, base, column)]
                several += len({column for column, _ in moves}) < len(moves)
                if chance.random() < 0.25 and len(past) > 1:
                    self.assertIsNone(sheet.undo())
                    past.pop()
                    back += 1
                elif moves:
                    column, other = chance.choice(moves)
                    self.assertIsNone(sheet.step(column, other))
                    past.append(tuple(at for at in base if at != other) + (column,))
                    made += 1
                self.tells(sheet, task, past[-1], len(past) - 1)
            while len(past) > 1:
                past.pop()
                sheet.undo()
                self.tells(sheet, task, past[-1], len(past) - 1)
            self.assertRaises(NoStep, sheet.undo)
        self.assertGreater(made, 150)
        self.assertGreater(min(back, several), 30)

    def test_run(self):
        ends, long = {"best": 0, "endless": 0}, 0
        for task in some_tasks():
            sheet, base, made = Sheet(task), list(Sheet(task).base), 0
            while True:
                entering = [at for at, number in enumerate(left_costs(task, base)) if number < 0]
                others = leaving(task, base, entering[0]) if entering else ()
                if not others:
                    break
                base = [at for at in base if at != others[0]] + [entering[0]]
                made += 1
            long = max(long, made)
            self.same(sheet.run(), made)
            self.tells(sheet, task, base, made)
            self.same(sheet.run(), 0)
            ends[ending(task)] += 1
            self.assertEqual(sheet.is_best(), ending(task) == "best")
            if sheet.is_best():
                self.same(sheet.cost, best_cost(task))
            else:
                self.same(sheet.is_endless(), True)
            for left in reversed(range(made)):
                self.assertIsNone(sheet.undo())
                self.same(sheet.steps, left)
            self.same(state(sheet), state(Sheet(task)))
        self.assertGreater(min(ends.values()), 30)
        self.assertGreater(long, 4)

    def test_run_goes_on_from_steps(self):
        sheet = Sheet(PLANTS)
        sheet.step(1, 3)
        self.same(sheet.run(), 1)
        self.same(sheet.steps, 2)
        self.same((sheet.base, sheet.cost), ((0, 1, 2), (-36, 1)))
        sheet.undo()
        self.same((sheet.base, sheet.cost), ((1, 2, 4), (-30, 1)))
        sheet.undo()
        self.same(state(sheet), state(Sheet(PLANTS)))
        self.assertRaises(NoStep, sheet.undo)

    def test_sheets_are_apart(self):
        one, other = Sheet(PLANTS), Sheet(PLANTS)
        one.run()
        self.same(other.steps, 0)
        self.same(state(other), state(Sheet(PLANTS)))

    def test_without_rows(self):
        sheet = Sheet(BARE)
        self.same((sheet.base, sheet.plan, sheet.cost), ((), ((0, 1), (0, 1)), (0, 1)))
        self.same((sheet.entering(), sheet.leaving(0), sheet.leaving(1)), ((1,), (), ()))
        self.same((sheet.is_best(), sheet.is_endless(), sheet.run(), sheet.steps), (False, True, 0, 0))
        self.assertRaises(NoStep, sheet.undo)
        self.assertRaises(BadStep, sheet.step, 0, 0)
        self.same((Sheet(PLAIN).is_best(), Sheet(PLAIN).is_endless()), (True, False))

    def test_endless_ones(self):
        # By the second column the cost falls for ever, but run makes its steps by the first one.
        sheet = Sheet(ENDLESS)
        self.same((sheet.is_best(), sheet.is_endless()), (False, True))
        self.same((sheet.leaving(0), sheet.leaving(1)), ((2,), ()))
        self.same((sheet.run(), sheet.base, sheet.cost), (1, (0,), (-2, 1)))
        self.same((sheet.entering(), sheet.leaving(1), sheet.is_endless()), ((1,), (), True))
        # Not endless at first, since the only column that enters has an end.
        sheet = Sheet(SLOW)
        self.same((sheet.is_endless(), sheet.run(), sheet.is_best(), sheet.cost), (False, 1, True, (-3, 1)))

    def test_several_are_0_first(self):
        sheet = Sheet(SAME)
        self.same(sheet.leaving(0), (2, 3, 4))
        self.same(sheet.leaving(1), (4,))
        sheet.step(0, 3)
        self.same((sheet.base, sheet.plan), ((0, 2, 4), ((2, 1), (0, 1), (0, 1), (0, 1), (0, 1))))
        self.same(Sheet(STUCK).leaving(0), (2, 3, 4))
        self.same(Sheet(STUCK).leaving(1), (2, 4))
        # A column that may not be missed by growing, since its number is 0 or below, is not told.
        self.same(Sheet(ZERO).leaving(0), ())

    def test_a_step_may_raise_the_cost(self):
        sheet = Sheet(PLANTS)
        sheet.run()
        self.same(sheet.leaving(3), (2,))
        sheet.step(3, 2)
        self.same((sheet.cost, sheet.is_best(), sheet.steps), ((-27, 1), False, 4))


class WrongSheetsTest(SheetCase):
    def test_no_tasks(self):
        for value in no_frames():
            self.fails(BadTask, {"index": None}, Sheet, value)
        for at, row in enumerate(no_rows()):
            self.fails(BadTask, {"index": at % 3}, Sheet, put(PLANTS, (2, at % 3), row))

    def test_not_simple(self):
        for task in (
            FOOD, MIXED, FULL, ("*", (1,), ()), ("+*", (1, 0), ()), put(PLANTS, (0,), "*+"), put(PLANTS, (2, 0, 1), ">="),
            put(PLANTS, (2, 2, 1), "="), put(PLANTS, (2, 1, 2), -1), ("+", (0,), (((1,), ">=", 0),)),
        ):
            self.fails(NotSimple, {}, Sheet, task)
        self.fails(BadTask, {"index": 2}, Sheet, put(put(PLANTS, (0,), "**"), (2, 2), None))

    def bad_columns(self, sheet):
        """Values that are no columns, or in the base."""
        many = len(sheet.plan)
        for value in STRANGERS + (-1, many, 10 ** 30, "0", (0,), [0], *sheet.base):
            if type(value) is not int or not 0 <= value < many or value in sheet.base:
                yield value

    def test_bad_steps(self):
        for task in TASKS:
            for runs in (False, True):
                sheet = Sheet(task)
                if runs:
                    sheet.run()
                before = state(sheet)
                for value in self.bad_columns(sheet):
                    self.fails(BadStep, {}, sheet.leaving, value)
                    for other in (*sheet.base, None, 0):
                        self.fails(BadStep, {}, sheet.step, value, other)
                for column in range(len(sheet.plan)):
                    for other in STRANGERS + (-1, *range(len(sheet.plan)), (0,), [1], "2"):
                        if column in sheet.base or type(other) is not int or other not in sheet.leaving(column):
                            self.fails(BadStep, {}, sheet.step, column, other)
                self.same(state(sheet), before)

    def test_true_is_no_column(self):
        sheet = Sheet(("++", (-1, -1), (((1, 0), "<=", 1), ((0, 1), "<=", 1))))
        sheet.step(0, 2)
        sheet.step(1, 3)
        before = state(sheet)
        self.fails(BadStep, {}, sheet.step, 2, False)
        self.fails(BadStep, {}, sheet.step, 3, True)
        sheet.undo()
        for value in (True, False):
            self.fails(BadStep, {}, sheet.leaving, value)
        sheet.step(1, 3)
        self.same(state(sheet), before)

    def test_nothing_to_undo(self):
        for task in TASKS:
            sheet = Sheet(task)
            before = state(sheet)
            self.fails(NoStep, {}, sheet.undo)
            self.same(state(sheet), before)
            made = sheet.run()
            for _ in range(made):
                sheet.undo()
            self.fails(NoStep, {}, sheet.undo)
            self.same(state(sheet), before)
