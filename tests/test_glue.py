"""Copies of tasks: promises 1 and 27."""

import random
from fractions import Fraction
from itertools import permutations, product

from costpapers.errors import BadNumber, BadOrder, BadTask
from costpapers.glue import as_rows, beside, moved, shifted, split, times_rows, with_slacks
from costpapers.solve import best_cost, ending
from costpapers.tasks import is_plan, size
from tests import reckon
from tests.reckon import dot
from tests.samples import BARE, FOOD, FULL, LIMITS, MIXED, STRANGERS, TASKS, Case, put

ALL = (*TASKS, *reckon.some_tasks(131, 200, columns=(1, 6), rows=(0, 8), reach=4))
SMALL = (FOOD, MIXED, BARE, LIMITS, *reckon.some_tasks(132, 120, columns=(1, 3), rows=(0, 4), reach=3))
POINTS = (-2, -1, 0, Fraction(1, 2), 1, 3)


def points_of(many):
    """Some tuples of fractions."""
    if many <= 2:
        return list(product(POINTS, repeat=many))
    chance = random.Random(many)
    return [tuple(chance.choice(POINTS) for _ in range(many)) for _ in range(60)]


def holds(task, point):
    return reckon.holds_plan(task[0], task[2], point)


def is_task(task):
    """Tell whether a triple of tuples, which is like a task, is one."""
    kinds, costs, rows = task
    numbers = [*costs, *(number for row in rows for number in (*row[0], row[2]))]
    return len(kinds) <= 6 and len(rows) <= 8 and all(-1000 <= number <= 1000 for number in numbers)


def rows_by(change, task):
    return tuple((change(numbers), sign, right) for numbers, sign, right in task[2])


class GlueCase(Case):
    def gives_task(self, expected, function, *args):
        """A task is given, or BadNumber, if it would not be one."""
        if is_task(expected):
            self.gives(expected, function, *args)
            self.gives((len(expected[0]), len(expected[2])), size, function(*args))
        else:
            self.fails(BadNumber, {}, function, *args)
        return is_task(expected)


class ExamplesTest(Case):
    def test_examples(self):
        rows = (((0, 1), "<=", 6), ((2, 1), ">=", 8), ((1, 3), ">=", 9))
        self.gives(("++", (3, 2), rows), moved, FOOD, (1, 0), (2, 0, 1))
        self.gives(("+", (1,), (((3,), ">=", 6),)), times_rows, ("+", (1,), (((1,), ">=", 2),)), (3,))
        self.gives(("++", (1, -1), (((2, -2), "=", 4),)), split, ("*", (1,), (((2,), "=", 4),)))
        self.gives(("++", (1, 0), (((1, -1), "=", 2),)), with_slacks, ("+", (1,), (((1,), ">=", 2),)))
        self.gives(("*", (1,), (((1,), ">=", 0),)), as_rows, ("+", (1,), ()))
        self.gives(("*", (1,), (((2,), ">=", 2),)), shifted, ("*", (1,), (((2,), ">=", 4),)), (1,))
        self.gives(("+*", (1, 2), (((0, 1), "=", 3),)), beside, ("+", (1,), ()), ("*", (2,), (((1,), "=", 3),)))


class MovedTest(Case):
    def test_all_orders(self):
        for task in (FOOD, MIXED, *reckon.some_tasks(133, 20, columns=(1, 4), rows=(0, 3))):
            kinds, costs, rows = task
            for columns in permutations(range(len(kinds))):
                for lines in permutations(range(len(rows))):
                    told = moved(task, columns, lines)
                    for at, column in enumerate(columns):
                        self.assertEqual((told[0][at], told[1][at]), (kinds[column], costs[column]))
                        for index, line in enumerate(lines):
                            self.assertEqual(told[2][index][0][at], rows[line][0][column])
                    self.assertEqual([row[1:] for row in told[2]], [rows[line][1:] for line in lines])
                    self.gives(size(task), size, told)
                    # The order that takes it back.
                    back = tuple(sorted(range(len(columns)), key=lambda at: columns[at]))
                    self.gives(task, moved, told, back, tuple(sorted(range(len(lines)), key=lambda at: lines[at])))

    def test_same_order(self):
        for task in ALL:
            self.gives(task, moved, task, tuple(range(len(task[0]))), tuple(range(len(task[2]))))
            self.gives(tuple(reversed(task[2])), lambda *args: moved(*args)[2],
                       task, tuple(range(len(task[0]))), tuple(reversed(range(len(task[2])))))

    def test_plans_move_too(self):
        for task in SMALL:
            many = len(task[0])
            columns = tuple(range(1, many)) + (0,)
            told = moved(task, columns, tuple(range(len(task[2]))))
            for point in points_of(many):
                there = tuple(point[column] for column in columns)
                self.assertEqual(holds(task, point), holds(told, there))
                self.assertEqual(dot(task[1], point), dot(told[1], there))

    def test_bad_orders(self):
        wrong = STRANGERS + ((0, 0), (1, 1), (0, 2), (-1, 0), (1, 2), (0, 1, 0), (0, 1, 2), (0,), [0, 1], "01", (0, True),
                             (False, True), ((0,), (1,)), (1, 0, None), (10 ** 30, 0))
        for value in wrong:
            self.fails(BadOrder, {}, moved, FOOD, value, (2, 0, 1))
            self.fails(BadOrder, {}, moved, FOOD, value, None)
        for value in wrong + ((0, 1), (1, 0), (0, 0, 1), (1, 2, 3), (0, 1, -1), (2, 2, 2)):
            if value != (0, 1, 2):
                self.fails(BadOrder, {}, moved, FOOD, (1, 0), value)
        for value in STRANGERS:
            if value != ():
                self.fails(BadOrder, {}, moved, BARE, (0,), value)
        self.gives(BARE, moved, BARE, (0,), ())
        self.fails(BadTask, {"index": 1}, moved, put(FOOD, (2, 1, 1), ">"), None, None)


class BesideTest(GlueCase):
    def test_made_of_both(self):
        large = 0
        for one, other in zip(ALL, ALL[1:] + ALL[:1]):
            many, width = len(one[0]), len(other[0])
            rows = rows_by(lambda numbers: numbers + (0,) * width, one) + rows_by(lambda numbers: (0,) * many + numbers, other)
            large += not self.gives_task((one[0] + other[0], one[1] + other[1], rows), beside, one, other)
        self.assertGreater(large, 30)
        self.assertGreater(len(ALL) - large, 30)

    def test_plans_and_costs(self):
        for one, other in zip(SMALL, SMALL[3:]):
            told = beside(one, other)
            chance = random.Random(134)
            firsts, others = points_of(len(one[0])), points_of(len(other[0]))
            for _ in range(30):
                point, end = chance.choice(firsts), chance.choice(others)
                self.assertEqual(holds(told, point + end), holds(one, point) and holds(other, end))
                self.assertEqual(dot(told[1], point + end), dot(one[1], point) + dot(other[1], end))
            if ending(one) == ending(other) == "best":
                self.gives((reckon.least(told[0], told[2], told[1])).as_integer_ratio(), best_cost, told)

    def test_too_many(self):
        wide, long = ("+" * 3, (0,) * 3, ()), ("+", (0,), (((1,), ">=", 0),) * 4)
        self.gives(("+" * 6, (0,) * 6, ()), beside, wide, wide)
        self.fails(BadNumber, {}, beside, wide, ("+" * 4, (0,) * 4, ()))
        self.assertEqual(len(beside(long, long)[2]), 8)
        self.fails(BadNumber, {}, beside, long, put(long, (2,), long[2] + long[2][:1]))
        self.fails(BadNumber, {}, beside, FULL, FOOD)


class TimesRowsTest(GlueCase):
    def test_each_row(self):
        chance, large = random.Random(135), 0
        for task in ALL:
            for most in (1, 3, 400, 1000):
                factors = tuple(chance.randint(1, most) for _ in task[2])
                rows = tuple((tuple(factor * number for number in numbers), sign, factor * right)
                             for factor, (numbers, sign, right) in zip(factors, task[2]))
                large += not self.gives_task((task[0], task[1], rows), times_rows, task, factors)
        self.assertGreater(large, 100)

    def test_same_plans(self):
        for task in SMALL:
            if task == LIMITS:
                continue
            told = times_rows(task, tuple(range(2, len(task[2]) + 2)))
            for point in points_of(len(task[0])):
                self.assertEqual(holds(task, point), holds(told, point))

    def test_too_great(self):
        task = ("*", (1,), (((2,), ">=", -3), ((0,), "=", 0)))
        self.gives(("*", (1,), (((666,), ">=", -999), ((0,), "=", 0))), times_rows, task, (333, 1000))
        self.fails(BadNumber, {}, times_rows, task, (334, 1))
        self.fails(BadNumber, {}, times_rows, ("*", (1,), (((-1,), ">=", 501),)), (2,))
        self.fails(BadNumber, {}, times_rows, ("*", (1,), (((501,), ">=", 0),)), (2,))
        self.gives(LIMITS, times_rows, LIMITS, (1, 1))
        self.fails(BadNumber, {}, times_rows, LIMITS, (1, 2))
        # The costs stay as they are.
        self.gives(("*", (1000,), (((2,), "=", 2),)), times_rows, ("*", (1000,), (((1,), "=", 1),)), (2,))

    def test_bad_numbers(self):
        for value in STRANGERS + ((1, 2), (1, 2, 3, 4), [1, 2, 3], (0, 1, 1), (1, -1, 1), (1, 1, 1001), (1, 1, True),
                                  ((1, 1), (1, 1), (1, 1)), ("1", 1, 1), "123", {1: 1}, (1, None, 1)):
            if value != (1, 2, 3):
                self.fails(BadNumber, {}, times_rows, FOOD, value)


class SplitTest(GlueCase):
    def test_columns(self):
        large = 0
        for task in ALL:
            def change(numbers):
                told = []
                for kind, number in zip(task[0], numbers):
                    told += [number, -number] if kind == "*" else [number]
                return tuple(told)
            wide = "+" * len(change(task[1]))
            large += not self.gives_task((wide, change(task[1]), rows_by(change, task)), split, task)
        self.assertGreater(large, 20)

    def test_same_ends_and_costs(self):
        for task in SMALL:
            self.gives(ending(task), ending, split(task))
            self.gives(best_cost(task), best_cost, split(task))

    def test_some(self):
        self.gives(FOOD, split, FOOD)
        self.gives(("+++", (3, -2, 2), (((1, 2, -2), ">=", 4), ((0, -1, 1), "=", 1), ((-1, 0, 0), "<=", 0))), split, MIXED)
        self.gives(("+" * 6, (1, -1, 2, -2, 3, -3), ()), split, ("***", (1, 2, 3), ()))
        self.gives(("+" * 6, (1, -1, 2, 3, -3, 4), ()), split, ("*+*+", (1, 2, 3, 4), ()))
        self.fails(BadNumber, {}, split, ("****", (1, 2, 3, 4), ()))
        self.fails(BadNumber, {}, split, ("+++++*", (0,) * 6, ()))


class WithSlacksTest(GlueCase):
    def test_columns(self):
        large = 0
        for task in ALL:
            kinds, costs, rows = task
            loose = [index for index, row in enumerate(rows) if row[1] != "="]
            lines = []
            for index, (numbers, sign, right) in enumerate(rows):
                told = list(numbers)
                for other in loose:
                    told.append({">=": -1, "<=": 1}[sign] if other == index else 0)
                lines.append((tuple(told), "=", right))
            told = (kinds + "+" * len(loose), costs + (0,) * len(loose), tuple(lines))
            large += not self.gives_task(told, with_slacks, task)
        self.assertGreater(large, 50)
        self.assertGreater(len(ALL) - large, 50)

    def test_same_plans(self):
        for task in SMALL:
            if len(task[0]) + sum(row[1] != "=" for row in task[2]) > 6:
                continue
            told = with_slacks(task)
            self.gives(ending(task), ending, told)
            self.gives(best_cost(task), best_cost, told)
            for point in points_of(len(task[0])):
                left = tuple((dot(row[0], point) - row[2]) * (1 if row[1] == ">=" else -1) for row in task[2] if row[1] != "=")
                self.assertEqual(holds(task, point), holds(told, point + left))

    def test_some(self):
        told = ("+*+++", (3, -2, 0, 0, 0))
        rows = (((1, 2), ">=", 4), ((0, -1), "<=", 1), ((1, 1), "=", 5), ((-1, 0), ">=", 0))
        lines = (((1, 2, -1, 0, 0), "=", 4), ((0, -1, 0, 1, 0), "=", 1), ((1, 1, 0, 0, 0), "=", 5), ((-1, 0, 0, 0, -1), "=", 0))
        self.gives((*told, lines), with_slacks, ("+*", (3, -2), rows))
        self.gives(BARE, with_slacks, BARE)
        self.fails(BadNumber, {}, with_slacks, ("+" * 5, (0,) * 5, (((1,) * 5, "<=", 1), ((1,) * 5, ">=", 1))))
        self.fails(BadNumber, {}, with_slacks, FULL)


class AsRowsTest(GlueCase):
    def test_rows(self):
        large = 0
        for task in ALL:
            kinds, costs, rows = task
            more = tuple((reckon.one_at(len(kinds), at), ">=", 0) for at, kind in enumerate(kinds) if kind == "+")
            large += not self.gives_task(("*" * len(kinds), costs, rows + more), as_rows, task)
        self.assertGreater(large, 20)

    def test_same_plans(self):
        for task in SMALL:
            told = as_rows(task)
            self.gives(best_cost(task), best_cost, told)
            for point in points_of(len(task[0])):
                self.assertEqual(holds(task, point), holds(told, point))

    def test_some(self):
        self.gives(BARE, as_rows, BARE)
        self.gives(("**", (3, -2), MIXED[2] + (((1, 0), ">=", 0),)), as_rows, MIXED)
        self.fails(BadNumber, {}, as_rows, FULL)
        self.gives(("*", (1,), FULL_ONES + (((1,), ">=", 0),)), as_rows, ("+", (1,), FULL_ONES))
        self.fails(BadNumber, {}, as_rows, ("+", (1,), FULL_ONES + FULL_ONES[:1]))


FULL_ONES = (((1,), "<=", 5),) * 7


class ShiftedTest(GlueCase):
    def test_right_sides(self):
        chance, large = random.Random(136), 0
        for task in ALL:
            kinds, costs, rows = task
            for most in (1, 5, 1000):
                steps = tuple(chance.randint(-most, most) if kind == "*" else 0 for kind in kinds)
                lines = tuple((numbers, sign, right - int(dot(numbers, steps))) for numbers, sign, right in rows)
                large += not self.gives_task((kinds, costs, lines), shifted, task, steps)
        self.assertGreater(large, 50)

    def test_plans_move_too(self):
        for task in SMALL:
            if task == LIMITS:
                continue
            steps = tuple((1, -2, 3)[at] if kind == "*" else 0 for at, kind in enumerate(task[0]))
            told = shifted(task, steps)
            for point in points_of(len(task[0])):
                there = tuple(item - step for item, step in zip(point, steps))
                self.assertEqual(holds(task, point), holds(told, there))

    def test_too_great(self):
        task = ("*", (0,), (((2,), ">=", 4),))
        self.gives(("*", (0,), (((2,), ">=", 1000),)), shifted, task, (-498,))
        self.fails(BadNumber, {}, shifted, task, (-499,))
        self.gives(("*", (0,), (((2,), ">=", -1000),)), shifted, task, (502,))
        self.fails(BadNumber, {}, shifted, task, (503,))
        self.gives(LIMITS, shifted, LIMITS, (0,))
        self.gives(put(put(LIMITS, (2, 0, 2), 0), (2, 1, 2), 0), shifted, LIMITS, (-1,))
        self.fails(BadNumber, {}, shifted, LIMITS, (1,))
        self.gives(("*", (3,), ()), shifted, ("*", (3,), ()), (1000,))

    def test_bad_steps(self):
        for value in STRANGERS + ((0,), (0, 0, 0), [0, 1], (0, 1001), (0, -1001), (0, True), (False, 0), (0, "1"), (0, (1, 1))):
            self.fails(BadNumber, {}, shifted, MIXED, value)
        # A column of the kind "+" stays.
        for value in ((1, 0), (-1, 2), (1000, 0)):
            self.fails(BadNumber, {}, shifted, MIXED, value)
        self.gives(put(put(MIXED, (2, 0, 2), 2), (2, 1, 2), 2), shifted, MIXED, (0, 1))
        self.fails(BadNumber, {}, shifted, FOOD, (0, 1))
        self.gives(FOOD, shifted, FOOD, (0, 0))
        self.assertTrue(is_plan(shifted(MIXED, (0, 1)), ((8, 1), (-2, 1))) == is_plan(MIXED, ((8, 1), (-1, 1))))
