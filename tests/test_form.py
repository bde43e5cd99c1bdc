"""The written form of sets: promises 1 and 18."""

import random
from fractions import Fraction
from math import gcd

from costpapers.errors import BadLists, BadNumber, BadTask, NoPlan, TooWide
from costpapers.form import form, hull, shadow
from costpapers.sets import dimension, same_set
from tests import reckon
from tests.reckon import dot, fractions, least, pair
from tests.samples import BARE, FOOD, NO_RATIOS, STRANGERS, Case, put
from tests.test_corners import CROSS, CUBE, EMPTY, HALF, PYRAMID, SQUARE, STRIP, WIDE, WIDE_EMPTY, some_tasks
from tests.test_sets import LINE, POINT, TRIANGLE


def some_hulls():
    """Points and directions of one to three columns."""
    chance = random.Random(71)
    for _ in range(200):
        many = chance.randint(1, 3)
        points = tuple(
            tuple(pair(Fraction(chance.randint(-3, 3), chance.choice((1, 1, 1, 2, 3)))) for _ in range(many))
            for _ in range(chance.choice((1, 1, 2, 3, 4, 6, 8)))
        )
        told = [reckon.numbers_from(chance, many, 2) for _ in range(chance.choice((0, 0, 1, 2, 4, 8)))]
        yield many, points, tuple(direction for direction in told if any(direction))


def some_columns(chance, many):
    told = [column for column in range(many) if chance.choice((True, False))]
    return tuple(told) or (chance.randrange(many),)


def scaled(numbers):
    """The fractions as integers, all multiplied by one number."""
    shared = 1
    for number in numbers:
        shared = shared * number.denominator // gcd(shared, number.denominator)
    return [int(number * shared) for number in numbers]


class ExamplesTest(Case):
    def test_examples(self):
        told = (((-1, -1), ">=", -3), ((0, 1), ">=", 0), ((1, 0), ">=", 0))
        self.gives(told, form, ("++", (0, 0), (((2, 2), "<=", 6), ((1, 0), "<=", 9))))
        self.gives((((-1,), ">=", -3), ((2,), ">=", 1)), hull, 1, (((1, 2),), ((3, 1),)), ())
        self.gives((((-1,), ">=", -6), ((1,), ">=", 0)), shadow, FOOD, (0,))


class FormTest(Case):
    def test_by_its_definition(self):
        flat = 0
        for task in some_tasks():
            kinds, _, rows = task
            told = form(task)
            self.gives(told, form, task)
            self.assertTrue(reckon.is_written_form(len(kinds), told), (task, told))
            self.assertTrue(reckon.all_keep(kinds, rows, told), (task, told))
            self.assertTrue(reckon.all_keep("*" * len(kinds), told, reckon.limits(kinds, rows)), (task, told))
            equal = [row for row in told if row[1] == "="]
            flat += len(equal) > 0
            self.assertEqual(len(equal), len(kinds) - dimension(task), task)
        self.assertGreater(flat, 30)

    def test_same_plans_have_the_same_form(self):
        found, tasks = [], [task for task in some_tasks() if len(task[0]) < 3]
        chance = random.Random(72)
        for _ in range(800):
            one, other = chance.choice(tasks), chance.choice(tasks)
            if len(one[0]) == len(other[0]):
                found.append(same_set(one, other))
                self.assertEqual(form(one) == form(other), found[-1], (one, other))
        self.assertGreater(found.count(True), 20)

    def test_some(self):
        self.gives((), form, BARE)
        self.gives((), form, ("****", (0,) * 4, ()))
        self.gives((((1,), ">=", 0),), form, ("+", (7,), (((0,), "<=", 0), ((1,), ">=", -1))))
        self.gives((((1, 0), "=", 0), ((0, 1), "=", 2)), form, POINT)
        self.gives((((1, -1), "=", 0),), form, LINE)
        self.gives((((-1, -1), ">=", -1), ((0, 1), ">=", 0), ((1, 0), ">=", 0)), form, TRIANGLE)
        self.gives((((-1, -1), ">=", -3), ((1, 1), ">=", 0)), form, STRIP)
        self.gives((((0, 2, 4), "=", 3), ((1, 0, 0), ">=", 1)), form, HALF)
        self.gives((((2, 0), "=", 1), ((0, 1), "=", 0)), form, ("**", (0, 0), (((2, 4), "=", 1), ((4, 2), "=", 2))))
        self.gives((((2, 4), "=", 1), ((0, -4), ">=", -1), ((0, 1), ">=", 0)), form, ("++", (0, 0), (((4, 8), "=", 2),)))
        self.gives((((3,), ">=", 1),), form, ("*", (0,), (((6,), ">=", 2), ((9,), ">=", -2))))
        self.gives((((-1,), ">=", -2), ((1,), ">=", 1)), form, ("*", (0,), (((1,), ">=", 1), ((1,), "<=", 2))))
        self.assertEqual([len(form(task)) for task in (SQUARE, CUBE, PYRAMID, CROSS)], [4, 6, 5, 5])


class HullTest(Case):
    def test_by_its_definition(self):
        flat = 0
        for many, points, directions in some_hulls():
            told = hull(many, points, directions)
            self.gives(told, hull, many, points, directions)
            self.assertTrue(reckon.is_written_form(many, told), (points, directions, told))
            self.holds_all(told, points, directions)
            self.holds_no_more(many, told, points, directions)
            flat += any(row[1] == "=" for row in told)
        self.assertGreater(flat, 30)

    def holds_all(self, told, points, directions):
        for row in told:
            for point in points:
                self.assertTrue(reckon.kept(row, fractions(point)), (points, directions, row))
            for direction in directions:
                self.assertTrue(reckon.kept((row[0], row[1], 0), direction), (points, directions, row))

    def holds_no_more(self, many, told, points, directions):
        """All base points, ways and lines of what keeps the rows are sums of the points and directions."""
        kinds = "+" * (len(points) + len(directions))
        ends, moves = reckon.parts_of("*" * many, told)
        self.assertTrue(ends)
        # The weights of points have the sum 1 for a point, and 0 for a way.
        for place, one in [*((end, 1) for end in ends), *((way, 0) for way in moves)]:
            rows = [(tuple([1] * len(points) + [0] * len(directions)), "=", one)]
            for at in range(many):
                sides = [Fraction(*point[at]) for point in points] + [Fraction(step[at]) for step in directions]
                *numbers, right = scaled([*sides, Fraction(place[at])])
                rows.append((tuple(numbers), "=", right))
            self.assertEqual(least(kinds, rows, (0,) * len(kinds)), 0, (points, directions, told, place))

    def test_some(self):
        zero, one, two = (0, 1), (1, 1), (2, 1)
        self.gives((((1,), "=", 2),), hull, 1, ((two,),), ())
        self.gives((((3, 0), "=", 1), ((0, 1), "=", 0)), hull, 2, (((1, 3), zero),), ())
        self.gives((((1,), ">=", 0),), hull, 1, ((one,), (zero,)), ((7,),))
        self.gives((((-1,), ">=", -1),), hull, 1, ((one,), (zero,)), ((-7,),))
        self.gives((), hull, 1, ((one,),), ((-7,), (1000,)))
        self.gives((((1, -1), "=", 1), ((0, 1), ">=", 0)), hull, 2, ((one, zero),), ((1, 1),))
        self.gives((((1, -1), "=", 1),), hull, 2, ((one, zero),), ((1, 1), (-1, -1)))
        self.gives((((0, 1), ">=", 0), ((1, 0), ">=", 0)), hull, 2, ((zero, zero),), ((1, 0), (0, 1), (3, 5)))
        told = (((-1, -1), ">=", -1), ((0, 1), ">=", 0), ((1, 0), ">=", 0))
        self.gives(told, hull, 2, ((zero, zero), (one, zero), (zero, one), ((1, 3), (1, 3))), ())
        self.gives(told, hull, 2, ((zero, one), (zero, one), (one, zero), (zero, zero), (one, zero)), ())
        cube = tuple((one if at & 1 else zero, one if at & 2 else zero, one if at & 4 else zero) for at in range(8))
        self.assertEqual(len(hull(3, cube, ())), 6)
        told = (((0, 0, 1), ">=", 0), ((0, 1, 0), ">=", 0), ((1, 0, 0), ">=", 0))
        self.gives(told, hull, 3, cube, ((1, 0, 0), (0, 1, 0), (0, 0, 1)))
        told = (((0, 0, 1), "=", 5), ((0, 1, 0), ">=", -1))
        self.gives(told, hull, 3, ((zero, (-1, 1), (5, 1)),), ((1, 0, 0), (-1, 0, 0), (0, 1, 0)))

    def test_very_large_ratios(self):
        large = 10 ** 800
        self.gives((((-1,), ">=", -large), ((large,), ">=", 1)), hull, 1, (((large, 1),), ((1, large),)), ())

    def test_wrong_lists(self):
        good = (((1, 2), (3, 1)), ((0, 1), (0, 1)))
        self.assertTrue(hull(2, good, ()))
        for many in (*STRANGERS, 4, -1, 100, (1,), [2]):
            if not (type(many) is int and 1 <= many <= 3):
                for rest in ((good, ()), (None, None), (good, 5)):
                    self.fails(BadNumber, {}, hull, many, *rest)
        bad = [*STRANGERS, (), good * 4 + good[:1], list(good), (list(good[0]),), (((1, 2),),), (good[0] + good[0],)]
        bad += [put(good, (at, 0), value) for value in NO_RATIOS for at in range(2)]
        for points in bad:
            self.fails(BadLists, {}, hull, 2, points, ())
            self.fails(BadLists, {}, hull, 2, points, None)
        bad = [value for value in STRANGERS if value != () and value != ((1, 1),) * 7]
        bad += [((0, 0),), ((1, 2),) * 9, ((1,),), ((1, 2, 3),), [(1, 2)], ([1, 2],), ((1, 2), (0, 0)), {(1, 2): 1}]
        bad += [((1, 0), (2, value)) for value in (1001, -1001, True, None, "1", (1,), (1, 1), [])]
        for directions in bad:
            self.fails(BadLists, {}, hull, 2, good, directions)
        self.gives((), hull, 2, good * 4, ((1000, -1000), (0, 1), (0, -1), (-1000, 1000)) * 2)


class ShadowTest(Case):
    def test_by_its_definition(self):
        chance = random.Random(73)
        for task in some_tasks():
            kinds, _, rows = task
            columns = some_columns(chance, len(kinds))
            told = shadow(task, columns)
            self.gives(told, shadow, task, columns)
            self.assertTrue(reckon.is_written_form(len(columns), told), (task, columns, told))
            wide = [(tuple(dict(zip(columns, numbers)).get(at, 0) for at in range(len(kinds))), sign, right)
                    for numbers, sign, right in told]
            self.assertTrue(reckon.all_keep(kinds, rows, wide), (task, columns, told))
            self.reaches_all(task, columns, told)

    def reaches_all(self, task, columns, told):
        """All base points, ways and lines of what keeps the rows come from plans, and from what plans go on along."""
        kinds, _, rows = task
        level = [(numbers, sign, 0) for numbers, sign, _ in rows]
        points, moves = reckon.parts_of("*" * len(columns), told)
        self.assertTrue(points)
        for point in points:
            fixed = [reckon.fixed(reckon.one_at(len(kinds), at), item) for at, item in zip(columns, point)]
            self.assertEqual(least(kinds, [*rows, *fixed], (0,) * len(kinds)), 0, (task, columns, told, point))
        for way in moves:
            fixed = [(reckon.one_at(len(kinds), at), "=", item) for at, item in zip(columns, way)]
            self.assertEqual(least(kinds, [*level, *fixed], (0,) * len(kinds)), 0, (task, columns, told, way))

    def test_all_columns(self):
        for task in some_tasks():
            self.gives(form(task), shadow, task, tuple(range(len(task[0]))))

    def test_some(self):
        self.gives((((1,), ">=", 1),), shadow, FOOD, (1,))
        self.gives((), shadow, BARE, (0,))
        self.gives((), shadow, STRIP, (1,))
        self.gives((((1,), "=", 2),), shadow, POINT, (1,))
        self.gives((((-1, -1), ">=", -1), ((0, 1), ">=", 0), ((1, 0), ">=", 0)), shadow, CROSS, (1, 3))
        self.gives((((-1,), ">=", -1), ((1,), ">=", 0)), shadow, PYRAMID, (2,))

    def test_errors(self):
        wrong = [*STRANGERS, (0, 0), (1, 0), (2,), (-1,), (0, 2), [0], (False,), (0, True), ((0,),), ("0",), {0: 1}]
        for columns in wrong:
            if columns not in ((0,), (1,)) or type(columns[0]) is not int:
                self.fails(BadNumber, {}, shadow, FOOD, columns)
        for columns in (*wrong, (0,)):
            self.fails(NoPlan, {}, shadow, EMPTY, columns)
            self.fails(TooWide, {"most": 4}, shadow, WIDE, columns)
            self.fails(NoPlan, {}, shadow, WIDE_EMPTY, columns)
            self.fails(BadTask, {"index": None}, shadow, columns, columns)
        self.fails(NoPlan, {}, form, EMPTY)
        self.fails(NoPlan, {}, form, WIDE_EMPTY)
        self.fails(TooWide, {"most": 4}, form, WIDE)
