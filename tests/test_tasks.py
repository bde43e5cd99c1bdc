"""Tasks and plans: promises 1, 3 and 4."""

from fractions import Fraction
from itertools import product

from costpapers.errors import BadNumber, BadPlan, BadRow, BadTask
from costpapers.tasks import broken, cost, is_plan, negated, plain, size, tight, with_row, without_row
from tests.samples import BARE, BROAD, FOOD, FULL, LIMITS, MIXED, STRANGERS, TASKS, Case, put, ratio, total
from tests.wrong import no_frames, no_indexes, no_plans, no_rows

ON_PLANS = (is_plan, cost, tight, broken)
SOME_RATIOS = ((-1000, 1), (-1, 1), (0, 1), (1, 3), (1, 1), (2, 1), (3, 1), (17, 2))


def good_plan(task):
    return ((0, 1),) * len(task[0])


def good_row(task):
    return ((0,) * len(task[0]), "=", 0)


def calls(task):
    """Each function of the module with arguments that fit a task with rows."""
    for function in ON_PLANS:
        yield function, (task, good_plan(task))
    for function in (size, plain, negated):
        yield function, (task,)
    yield with_row, (task, good_row(task))
    yield without_row, (task, 0)


def kept(row, plan):
    numbers, sign, right = row
    value = total(numbers, plan)
    return {">=": value >= right, "<=": value <= right, "=": value == right}[sign]


class ExamplesTest(Case):
    def test_examples(self):
        self.gives((2, 3), size, FOOD)
        self.gives(True, is_plan, FOOD, ((2, 1), (3, 1)))
        self.gives((13, 1), cost, FOOD, ((2, 1), (3, 1)))
        self.gives((0, 1), tight, FOOD, ((2, 1), (3, 1)))
        self.gives((0, 1), broken, FOOD, ((0, 1), (0, 1)))
        self.gives(((-1, 0), ">=", -6), lambda task: plain(task)[2][2], FOOD)
        self.gives(((3, 1), ">=", 9), lambda task: without_row(task, 0)[2][0], FOOD)
        self.fails(BadTask, {"index": 1}, size, ("+", (0,), (((0,), "=", 0), ((0, 0), "=", 0))))


class SizeTest(Case):
    def test_edges(self):
        self.gives((1, 0), size, BARE)
        self.gives((1, 2), size, LIMITS)
        self.gives((2, 8), size, FULL)
        self.gives((6, 2), size, BROAD)
        self.gives((6, 0), size, ("++++++", (0,) * 6, ()))


class PlansTest(Case):
    def test_against_fractions(self):
        for task in TASKS:
            many = len(task[0])
            plans = list(product(SOME_RATIOS, repeat=many)) if many < 3 else [SOME_RATIOS[:many], SOME_RATIOS[2:][:many]]
            for plan in plans:
                self.agrees(task, plan)

    def agrees(self, task, plan):
        kinds, costs, rows = task
        missed = tuple(index for index, row in enumerate(rows) if not kept(row, plan))
        fits = all(kind == "*" or Fraction(*item) >= 0 for kind, item in zip(kinds, plan))
        self.gives(not missed and fits, is_plan, task, plan)
        self.gives(ratio(total(costs, plan)), cost, task, plan)
        self.gives(tuple(index for index, row in enumerate(rows) if total(row[0], plan) == row[2]), tight, task, plan)
        self.gives(missed, broken, task, plan)

    def test_no_rows(self):
        for item in SOME_RATIOS:
            self.gives(True, is_plan, BARE, (item,))
            self.gives((0, 1), cost, BARE, (item,))
            self.gives((), tight, BARE, (item,))
            self.gives((), broken, BARE, (item,))

    def test_signs(self):
        for sign, below, equal, above in ((">=", False, True, True), ("<=", True, True, False), ("=", False, True, False)):
            task = ("*", (1,), (((2,), sign, 3),))
            for plan, keeps in ((((7, 5),), below), (((3, 2),), equal), (((8, 5),), above)):
                self.gives(keeps, is_plan, task, plan)
                self.gives(() if keeps else (0,), broken, task, plan)
                self.gives((0,) if plan == ((3, 2),) else (), tight, task, plan)

    def test_kinds(self):
        for plan, answer in ((((0, 1), (-1, 2)), True), (((-1, 9), (5, 1)), False), (((1, 9), (0, 1)), True)):
            self.gives(answer, is_plan, ("+*", (0, 0), ()), plan)
        self.gives(False, is_plan, ("+" * 6, (0,) * 6, ()), ((1, 1),) * 5 + ((-1, 1000),))

    def test_columns_below_zero_break_no_row(self):
        self.gives((), broken, ("+", (0,), ()), ((-1, 1),))
        self.gives((), tight, ("+", (0,), ()), ((0, 1),))

    def test_very_large_ratios(self):
        large = 10 ** 5000
        task = ("*", (1000,), (((1000,), "<=", 1000), ((-1,), "<=", -1)))
        self.gives((large + 1, large // 1000), cost, task, ((large + 1, large),))
        self.gives((0,), broken, task, ((large + 1, large),))
        self.gives((1,), broken, task, ((large - 1, large),))
        self.gives((0, 1), tight, task, ((1, 1),))

    def test_wrong_plans(self):
        for function in ON_PLANS:
            for plan in no_plans():
                self.fails(BadPlan, {}, function, FOOD, plan)
            self.fails(BadPlan, {}, function, BARE, ())
            self.fails(BadPlan, {}, function, BARE, ((1, 1), (1, 1)))
            self.fails(BadPlan, {}, function, BARE, (1, 1))


class TasksTest(Case):
    def test_plain(self):
        self.gives(("++", (2, 3), FOOD[2][:2] + (((-1, 0), ">=", -6),)), plain, FOOD)
        self.gives(("+*", (3, -2), MIXED[2][:2] + (((1, 0), ">=", 0),)), plain, MIXED)
        self.gives(("*", (-1000,), (((-1000,), ">=", 1000), ((-1000,), "=", 1000))), plain, LIMITS)
        self.gives(BARE, plain, BARE)
        for task in TASKS:
            rows = tuple((tuple(-n for n in a), ">=", -b) if sign == "<=" else (a, sign, b) for a, sign, b in task[2])
            self.gives((task[0], task[1], rows), plain, task)
            self.gives(plain(task), plain, plain(task))

    def test_negated(self):
        self.gives(("++", (-2, -3), FOOD[2]), negated, FOOD)
        self.gives(("*", (1000,), LIMITS[2]), negated, LIMITS)
        self.gives(BARE, negated, BARE)
        for task in TASKS:
            self.gives(task, lambda one: negated(negated(one)), task)

    def test_with_row(self):
        for row in (((1, -2), "=", 0), ((1000, -1000), "<=", -1000), ((0, 0), ">=", 1000)):
            self.gives(FOOD[:2] + (FOOD[2] + (row,),), with_row, FOOD, row)
        self.gives(("*", (0,), (((1,), ">=", 2),)), with_row, BARE, ((1,), ">=", 2))
        self.gives(FULL, with_row, FULL[:2] + (FULL[2][:7],), FULL[2][7])
        self.fails(BadNumber, {}, with_row, FULL, FULL[2][0])

    def test_without_row(self):
        for task in TASKS:
            for index in range(len(task[2])):
                rows = tuple(row for at, row in enumerate(task[2]) if at != index)
                self.gives(task[:2] + (rows,), without_row, task, index)

    def test_wrong_rows(self):
        for row in no_rows():
            self.fails(BadRow, {}, with_row, FOOD, row)
        for row in (((1,), "=", 0), ((1, 2, 3), "=", 0), ((), "=", 0)):
            self.fails(BadRow, {}, with_row, FOOD, row)

    def test_wrong_indexes(self):
        for task in TASKS:
            for index in no_indexes(task):
                self.fails(BadNumber, {}, without_row, task, index)


class WrongTasksTest(Case):
    def test_no_frames(self):
        for wrong in no_frames():
            for function, args in calls(FOOD):
                self.fails(BadTask, {"index": None}, function, wrong, *args[1:])

    def test_no_rows(self):
        for wrong in no_rows():
            for at in range(3):
                task = put(FOOD, (2, at), wrong)
                for function, args in calls(FOOD):
                    self.fails(BadTask, {"index": at}, function, task, *args[1:])

    def test_the_first_wrong_row_is_told(self):
        rows = FULL[2]
        for first in range(8):
            task = FULL[:2] + (rows[:first] + (None,) * (8 - first),)
            self.fails(BadTask, {"index": first}, size, task)
        self.fails(BadTask, {"index": None}, size, FULL[:2] + (rows + (None,),))
        self.fails(BadTask, {"index": None}, size, FULL[:2] + (rows + rows[:1],))
        self.fails(BadTask, {"index": None}, size, ("+*", (1, 1001), (None,)))

    def test_one_beyond_each_number(self):
        for number, answer in ((1000, True), (-1000, True), (1001, False), (-1001, False)):
            for index, place in ((None, (1, 0)), (1, (2, 1, 0, 0)), (1, (2, 1, 2))):
                task = put(LIMITS, place, number)
                if answer:
                    self.gives((1, 2), size, task)
                else:
                    self.fails(BadTask, {"index": index}, size, task)

    def test_true_and_false_are_no_integers(self):
        for wrong in (True, False):
            for index, place in ((None, (1, 0)), (0, (2, 0, 0, 0)), (0, (2, 0, 2))):
                for function, args in calls(LIMITS):
                    self.fails(BadTask, {"index": index}, function, put(LIMITS, place, wrong), *args[1:])
            self.fails(BadRow, {}, with_row, BARE, ((wrong,), "=", 0))
            self.fails(BadRow, {}, with_row, BARE, ((0,), "=", wrong))
            self.fails(BadNumber, {}, without_row, FOOD, wrong)


class TwoWrongArgumentsTest(Case):
    def test_the_leftmost_is_told(self):
        for index, task in ((None, None), (2, put(FOOD, (2, 2), [])), (0, FULL[:2] + (([],) * 8,))):
            for function in ON_PLANS + (with_row, without_row):
                for wrong in STRANGERS:
                    self.fails(BadTask, {"index": index}, function, task, wrong)

    def test_a_wrong_row_for_a_full_task(self):
        for wrong in no_rows():
            self.fails(BadRow, {}, with_row, FULL, wrong)


class UnchangedTest(Case):
    def test_good_arguments(self):
        for task in TASKS:
            for function, args in calls(task):
                if function is without_row and not task[2] or function is with_row and len(task[2]) == 8:
                    continue
                self.gives(function(*args), function, *args)
