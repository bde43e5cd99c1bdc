"""Corners, ways and mixes: promises 1, 15, 16 and 17."""

import random
from fractions import Fraction
from itertools import combinations

from costpapers.corners import (
    base_points, best_corners, corners, edge_ways, faces, is_corner, is_mixed, lines, neighbors, shows_mix, some_mix,
    ways,
)
from costpapers.errors import BadPlan, BadTask, NoPlan, TooWide
from costpapers.solve import ending
from tests import reckon
from tests.reckon import dot, fractions, holds_plan, least, one_at, pair
from tests.samples import BARE, FOOD, NO_RATIOS, STRANGERS, Case
from tests.test_sets import LINE, POINT, TRIANGLE
from tests.test_solve import KNOWN, some_ratios
from tests.wrong import no_plans

SQUARE = ("++", (-1, 0), (((1, 0), "<=", 1), ((0, 1), "<=", 1)))
CUBE = ("+++", (1, 1, 1), tuple((one_at(3, at), "<=", 2) for at in range(3)))
STRIP = ("**", (0, 0), (((1, 1), ">=", 0), ((1, 1), "<=", 3)))
WEDGE = ("**", (0, 0), (((2, 1), ">=", 1), ((1, 2), ">=", 1)))
HALF = ("***", (1, 0, 0), (((0, 2, 4), "=", 3), ((1, 0, 0), ">=", 1)))
CROSS = ("++++", (0,) * 4, (((1, 1, 1, 1), "<=", 1),))
TIES = ("++", (0, 0), (((1, 1), "<=", 1), ((2, 2), "<=", 2), ((1, 0), "<=", 1), ((1, 0), ">=", 0)))
SIDES = tuple(((*side, 1), "<=", 1) for side in ((1, 0), (-1, 0), (0, 1), (0, -1)))
PYRAMID = ("***", (0, 0, 1), SIDES + (((0, 0, 1), ">=", 0),))
SOME = (BARE, FOOD, POINT, LINE, TRIANGLE, SQUARE, CUBE, STRIP, WEDGE, HALF, CROSS, TIES, PYRAMID)
ALL = (base_points, best_corners, corners, faces, lines, ways)
EMPTY = ("++", (0, 0), (((1, 1), "<=", -1),))
WIDE = ("+++++", (0,) * 5, (((1, 1, 1, 1, 1), "<=", 1),))
WIDE_EMPTY = ("+++++", (0,) * 5, (((1, 1, 1, 1, 1), "<=", -1),))
ORIGIN = ((0, 1),) * 5


def some_tasks():
    """Tasks that have plans, of up to four columns, most of them with corners."""
    yield from SOME
    told = [*(task for task, _, _ in KNOWN), *reckon.some_tasks(61, 150, (1, 3), (0, 4), 2)]
    yield from (task for task in told if len(task[0]) < 5 and ending(task) != "none")
    yield from reckon.some_best_tasks(62, 60, (1, 3), (0, 5), 2)
    yield from reckon.some_best_tasks(63, 20, (4, 4), (1, 5), 2)


def ratios(point):
    return tuple(pair(item) for item in point)


def tight_limits(task, point):
    return [row for row in reckon.limits(task[0], task[2]) if reckon.tight(row, point)]


def line_places(task):
    return [reckon.first_place(line) for line in lines(task)]


class ExamplesTest(Case):
    def test_examples(self):
        self.gives([((0, 1), (9, 1)), ((2, 1), (3, 1)), ((6, 1), (1, 1))], corners, FOOD)
        self.gives([(0, 1)], ways, FOOD)
        self.gives([(1, -1)], lines, ("**", (0, 0), (((1, 1), ">=", 0),)))
        self.gives(True, is_corner, FOOD, ((2, 1), (3, 1)))
        self.gives([((0, 1), (9, 1)), ((6, 1), (1, 1))], neighbors, FOOD, ((2, 1), (3, 1)))
        self.gives([(0, 1)], edge_ways, FOOD, ((6, 1), (1, 1)))
        self.gives([((2, 1), (3, 1))], best_corners, FOOD)
        self.gives((3, 3, 1), faces, ("++", (0, 0), (((1, 1), "<=", 1),)))
        self.gives(True, is_mixed, FOOD, ((2, 1), (4, 1)))
        self.fails(TooWide, {"most": 4}, corners, ("+++++", (0, 0, 0, 0, 0), ()))


class CornersTest(Case):
    def test_corners(self):
        found = []
        for task in some_tasks():
            kinds, costs, rows = task
            points = reckon.corner_points(kinds, rows)
            found.append(len(points))
            self.gives([ratios(point) for point in points], corners, task)
            for point in points:
                self.gives(True, is_corner, task, ratios(point))
            low = least(kinds, rows, costs)
            self.gives([ratios(point) for point in points if dot(costs, point) == low], best_corners, task)
        self.assertGreater(found.count(0), 20)
        self.assertGreater(max(found), 5)

    def test_is_corner(self):
        chance, found = random.Random(64), []
        tasks = [*some_tasks(), *reckon.some_tasks(65, 60, (1, 2), (0, 3), 1), EMPTY, WIDE, WIDE_EMPTY]
        for task in tasks:
            for _ in range(4):
                plan = some_ratios(chance, len(task[0]), 1)
                point = fractions(plan)
                told = holds_plan(task[0], task[2], point)
                told = told and reckon.rank([row[0] for row in tight_limits(task, point)]) == len(plan)
                found.append(told)
                self.gives(told, is_corner, task, plan)
        self.assertGreater(found.count(True), 50)
        self.gives(True, is_corner, WIDE, ORIGIN)
        self.gives(False, is_corner, WIDE, ((1, 5),) * 5)
        self.gives(True, is_corner, ("+" * 6, (0,) * 6, ()), ((0, 1),) * 6)
        self.gives(False, is_corner, ("+" * 5 + "*", (0,) * 6, ()), ((0, 1),) * 6)

    def test_lines(self):
        found = 0
        for task in some_tasks():
            kinds, _, rows = task
            told = lines(task)
            found += len(told) > 0
            numbers = [row[0] for row in reckon.limits(kinds, rows)]
            self.assertTrue(reckon.is_in_steps(told), task)
            self.assertEqual(len(told), len(kinds) - reckon.rank(numbers), task)
            for line in told:
                self.assertEqual((type(line), len(line)), (tuple, len(kinds)), task)
                self.assertFalse(any(dot(row, line) for row in numbers), task)
            self.gives(told, lines, task)
        self.assertGreater(found, 20)

    def test_base_points_and_ways(self):
        found = []
        for task in some_tasks():
            kinds, _, rows = task
            zeros = line_places(task)
            level = [(one_at(len(kinds), at), "=", 0) for at in zeros]
            points = reckon.corner_points(kinds, [*rows, *level])
            self.gives([ratios(point) for point in points], base_points, task)
            self.assertTrue(points, task)
            told = reckon.outmost_ways(kinds, rows, zeros)
            found.append(len(told))
            self.gives(told, ways, task)
        self.assertGreater(found.count(0), 20)
        self.assertGreater(max(found), 3)

    def test_ways_by_their_definition(self):
        for task in some_tasks():
            kinds, _, rows = task
            if len(kinds) < 3:
                level = [(numbers, sign, 0) for numbers, sign, _ in rows]
                level += [(one_at(len(kinds), at), "=", 0) for at in line_places(task)]
                near = [way for way in self.small(len(kinds)) if holds_plan(kinds, level, way)]
                for way in ways(task):
                    self.assertTrue(holds_plan(kinds, level, way), task)
                    for one, other in combinations(near, 2):
                        self.assertFalse(self.is_sum(way, one, other), (task, way, one, other))
                # What goes on for ever is a sum of outmost ways.
                sides = [tuple(way[at] for way in ways(task)) for at in range(len(kinds))]
                for way in near:
                    told = [(side, "=", item) for side, item in zip(sides, way)]
                    self.assertEqual(least("+" * len(ways(task)), told, (0,) * len(ways(task))), 0, (task, way))

    def small(self, many):
        told = [()]
        for _ in range(many):
            told = [way + (item,) for way in told for item in range(-2, 3)]
        return sorted({reckon.whole([Fraction(item) for item in way]) for way in told if any(way)})

    def is_sum(self, way, one, other):
        told = [((first, second), "=", item) for first, second, item in zip(one, other, way)]
        return least("++", told + [((1, 0), ">=", 1)], (0, 0)) == 0 and way not in (one, other) and \
            reckon.rank([one, other]) == 2

    def test_some(self):
        self.gives([(0, 1)], ways, ("+*", (0, 0), (((-5, 3), ">=", 4), ((1, 0), "<=", 0))))
        self.gives([(1, 0), (3, 5)], ways, ("++", (0, 0), (((5, -3), ">=", 4),)))
        self.gives([(2, 3)], ways, ("++", (0, 0), (((6, -4), "=", 2),)))
        self.gives([((1, 3), (0, 1))], base_points, ("++", (0, 0), (((6, -4), "=", 2),)))
        self.gives([(1, 0, 0), (0, 2, -1)], lines, ("***", (0, 0, 0), (((0, 1, 2), "<=", 7),)))
        self.gives([((0, 1), (0, 1), (7, 2))], base_points, ("***", (0, 0, 0), (((0, 1, 2), "<=", 7),)))
        self.gives([(0, 0, -1)], ways, ("***", (0, 0, 0), (((0, 1, 2), "<=", 7),)))
        self.gives([], corners, ("***", (0, 0, 0), (((0, 1, 2), "<=", 7),)))
        self.gives([], corners, BARE)
        self.gives([((0, 1),)], base_points, BARE)
        self.gives([(1,)], lines, BARE)
        self.gives([], ways, BARE)
        self.gives([((0, 1), (2, 1))], corners, POINT)
        self.gives([], ways, POINT)
        self.gives([((0, 1),)], corners, ("+", (1,), ()))
        self.gives([(1,)], ways, ("+", (1,), ()))

    def test_ascending_as_numbers(self):
        sides = ((2, 9), (-2, -9), (3, -7), (-3, 7))
        told = corners(("**", (0, 0), tuple((side, ">=", -6) for side in sides)))
        self.assertEqual([fractions(point) for point in told], sorted(fractions(point) for point in told))
        self.assertEqual(len(told), 4)
        for task in some_tasks():
            for told in (corners(task), base_points(task)):
                self.assertEqual([fractions(point) for point in told], sorted(fractions(point) for point in told), task)


class NeighborsTest(Case):
    def test_by_their_definitions(self):
        found = []
        for task in some_tasks():
            points = [fractions(point) for point in corners(task)]
            for point in points:
                here = tight_limits(task, point)
                told = [other for other in points if other != point and self.rank_at(here, other) == len(point) - 1]
                self.gives([ratios(other) for other in told], neighbors, task, ratios(point))
                moves = [way for way in ways(task) if self.rank_along(here, way) == len(point) - 1]
                found.append((len(told), len(moves)))
                self.gives(moves, edge_ways, task, ratios(point))
        self.assertGreater(max(count for count, _ in found), 2)
        self.assertGreater(max(count for _, count in found), 1)

    def rank_at(self, rows, other):
        return reckon.rank([row[0] for row in rows if reckon.tight(row, other)])

    def rank_along(self, rows, way):
        return reckon.rank([row[0] for row in rows if not dot(row[0], way)])

    def test_some(self):
        self.gives([((0, 1),)], neighbors, ("+", (0,), (((1,), "<=", 5),)), ((5, 1),))
        self.gives([], neighbors, ("+", (0,), ()), ((0, 1),))
        self.gives([(1,)], edge_ways, ("+", (0,), ()), ((0, 1),))
        self.gives([((0, 1), (1, 1)), ((1, 1), (0, 1))], neighbors, SQUARE, ((0, 1), (0, 1)))
        self.gives([((1, 1), (0, 1)), ((1, 1), (1, 1))], best_corners, SQUARE)
        self.gives([], best_corners, ("+", (-1,), ()))
        self.gives([], best_corners, BARE)
        self.gives(4, lambda: len(neighbors(PYRAMID, ((0, 1), (0, 1), (1, 1)))))

    def test_values_that_are_no_corners(self):
        wrong = [*no_plans(), ((3, 1), (3, 1)), ((0, 1), (0, 1)), ((1, 1), (6, 1)), ((-2, 1), (3, 1))]
        for function in (neighbors, edge_ways):
            for value in wrong:
                self.fails(BadPlan, {}, function, FOOD, value)
                self.fails(NoPlan, {}, function, EMPTY, value)
                self.fails(TooWide, {"most": 4}, function, WIDE, value)
                self.fails(NoPlan, {}, function, WIDE_EMPTY, value)
                self.fails(BadTask, {"index": None}, function, value, value)
            for item in ((0, 1), (7, 1)):
                self.fails(BadPlan, {}, function, BARE, (item,))
            self.fails(BadPlan, {}, function, STRIP, ((0, 1), (0, 1)))


class FacesTest(Case):
    def test_by_their_definition(self):
        tallest = 0
        for task in some_tasks():
            told = self.told(task)
            if told is not None:
                tallest = max(tallest, len(told))
                self.gives(told, faces, task)
        self.assertGreater(tallest, 3)

    def told(self, task):
        kinds, _, rows = task
        all_limits, points = reckon.limits(kinds, rows), [fractions(point) for point in corners(task)]
        if len(all_limits) > 7:
            return None
        lots = set()
        for many in range(len(all_limits) + 1):
            for chosen in combinations(all_limits, many):
                lot = tuple(point for point in points if all(reckon.tight(row, point) for row in chosen))
                lots |= {lot} if lot else set()
        sizes = []
        for lot in lots:
            level = [(row[0], "=", row[2]) if all(reckon.tight(row, point) for point in lot) else row for row in all_limits]
            sizes.append(len(kinds) - reckon.equal_rank(kinds, level))
        return tuple(sizes.count(size) for size in range(max(sizes, default=-1) + 1))

    def test_some(self):
        self.gives((4, 4, 1), faces, SQUARE)
        self.gives((8, 12, 6, 1), faces, CUBE)
        self.gives((5, 10, 10, 5, 1), faces, CROSS)
        self.gives((5, 8, 5, 1), faces, PYRAMID)
        self.gives((3, 3, 1), faces, TIES)
        self.gives((1,), faces, POINT)
        self.gives((1,), faces, ("++", (0, 0), ()))
        self.gives((), faces, STRIP)
        self.gives((), faces, BARE)
        self.gives((2, 1), faces, ("++", (0, 0), (((1, 0), "<=", 3),)))
        self.gives((3, 2, 1), faces, FOOD)


class MixesTest(Case):
    def plans(self, task, chance):
        yield from corners(task)
        yield from base_points(task)
        kinds, _, rows = task
        for _ in range(2):
            numbers = reckon.numbers_from(chance, len(kinds), 2)
            yield ratios(fractions(reckon.solution((kinds, numbers, rows))[1]))
        points = [fractions(point) for point in base_points(task)]
        mean = [sum(items) / len(points) for items in zip(*points)]
        yield ratios(mean)
        for way in ways(task) + lines(task) + [tuple(-item for item in line) for line in lines(task)]:
            yield ratios([item + Fraction(3, 7) * step for item, step in zip(mean, way)])
        yield some_ratios(chance, len(kinds))

    def test_mixes(self):
        chance, found = random.Random(66), []
        for task in some_tasks():
            for plan in self.plans(task, chance):
                told = holds_plan(task[0], task[2], fractions(plan))
                found.append(told)
                self.gives(told, is_mixed, task, plan)
                value = some_mix(task, plan)
                if told:
                    self.makes(task, plan, value)
                    self.gives(True, shows_mix, task, plan, value)
                else:
                    self.gives(None, some_mix, task, plan)
                    self.gives(False, shows_mix, task, plan, None)
        self.assertGreater(found.count(True), 200)
        self.assertGreater(found.count(False), 50)

    def makes(self, task, plan, value):
        many = len(plan)
        self.assertEqual([type(part) for part in (value, *value)], [tuple] * 3)
        told, moves = value
        self.assertLessEqual(len(told) + len(moves), many + 1, (task, plan, value))
        directions = ways(task) + lines(task) + [tuple(-item for item in line) for line in lines(task)]
        self.assertTrue(all(part in base_points(task) for part, _ in told), (task, plan, value))
        self.assertTrue(all(part in directions for part, _ in moves), (task, plan, value))
        self.assertTrue(all(Fraction(*weight) > 0 for _, weight in told + moves), (task, plan, value))
        self.assertEqual(sum(Fraction(*weight) for _, weight in told), 1, (task, plan, value))
        sums = [sum(Fraction(*weight) * Fraction(*part[at]) for part, weight in told) for at in range(many)]
        sums = [item + sum(Fraction(*weight) * part[at] for part, weight in moves) for at, item in enumerate(sums)]
        self.assertEqual(ratios(sums), plan, (task, plan, value))

    def test_shows_mix(self):
        low, high, plan = ((0, 1), (0, 1)), ((1, 1), (1, 1)), ((1, 2), (1, 2))
        side, other = ((0, 1), (1, 1)), ((1, 1), (0, 1))
        whole, half, third = (1, 1), (1, 2), (1, 3)
        for value, told in (
            ((((low, half), (high, half)), ()), True), ((((high, half), (low, half)), ()), True),
            ((((low, half), (low, half)), ()), False), ((((side, half), (other, half)), ()), True),
            ((((low, (1, 4)), (high, half), (low, (1, 4))), ()), True),
            ((((low, (1, 4)), (high, (1, 4)), (low, (1, 4)), (high, (1, 4))), ()), False),
            ((((low, half), (high, half), (side, (0, 1))), ()), False),
            ((((low, third), (high, half)), ()), False), ((((low, half), (high, whole)), ()), False),
            ((((plan, whole),), ()), False), (((), ()), False), ((((low, half), (high, half)),), False),
            ([((low, half), (high, half)), ()], False), (([(low, half), (high, half)], ()), False),
            ((((low, half), [high, half]), ()), False), ((((low, half), (high, half)), []), False),
            ((((low, half), (high, half)), (((1, 0), half),)), False),
            (((((0, 0), half), (high, half)), ()), False), ((((low, half), (high, half, half)), ()), False),
            ((((low, (2, 4)), (high, half)), ()), False), (((([(0, 1), (0, 1)], half), (high, half)), ()), False),
            ((((((False, 1), (0, 1)), half), (high, half)), ()), False), ((((low, (True, 2)), (high, half)), ()), False),
        ):
            self.gives(told, shows_mix, SQUARE, plan, value)
        odd = [*STRANGERS, *NO_RATIOS, *(((item,), ()) for item in NO_RATIOS), *((item, ()) for item in STRANGERS)]
        for value in odd:
            self.gives(False, shows_mix, SQUARE, plan, value)
        self.gives(False, shows_mix, SQUARE, ((1, 2), (1, 3)), (((low, half), (high, half)), ()))
        self.gives(False, shows_mix, SQUARE, ((2, 1), (2, 1)), (((high, (2, 1)),), ()))

    def test_directions_of_a_mix(self):
        origin = ((0, 1), (0, 1))
        quarter = ("++", (0, 0), ())
        for moves, told in (
            ((((1, 0), (2, 1)), ((0, 1), (3, 1))), True), ((((2, 3), (1, 1)),), False),
            ((((2, 0), (1, 1)), ((0, 1), (3, 1))), False), ((((1, 0), (2, 1)), ((0, 1), (2, 1)), ((0, 1), (1, 1))), False),
            ((([1, 0], (2, 1)), ((0, 1), (3, 1))), False), ((((True, 0), (2, 1)), ((0, 1), (3, 1))), False),
            ((((1, 0), (2, 1)),), False), ((((1, 0), (1, 1)), ((1, 0), (1, 1))), False),
        ):
            self.gives(told, shows_mix, quarter, ((2, 1), (3, 1)), (((origin, (1, 1)),), moves))
        self.gives(False, shows_mix, quarter, ((-2, 1), (0, 1)), (((origin, (1, 1)),), (((-1, 0), (2, 1)),)))
        level = ("**", (0, 0), (((1, 1), "=", 0),))
        self.gives(True, shows_mix, level, ((2, 1), (-2, 1)), (((origin, (1, 1)),), (((1, -1), (2, 1)),)))
        self.gives(True, shows_mix, level, ((-2, 1), (2, 1)), (((origin, (1, 1)),), (((-1, 1), (2, 1)),)))
        self.gives(False, shows_mix, level, ((-2, 1), (2, 1)), (((origin, (1, 1)),), (((1, -1), (-2, 1)),)))
        self.gives(True, shows_mix, level, origin, (((origin, (1, 1)),), (((-1, 1), (2, 1)), ((1, -1), (2, 1)))))

    def test_as_many_pairs_as_are_allowed(self):
        self.assertEqual(len(some_mix(CROSS, ((1, 5), (1, 6), (1, 7), (1, 8)))[0]), 5)
        told, moves = some_mix(("++++", (0,) * 4, ()), ((1, 5), (1, 6), (1, 7), (1, 8)))
        self.assertEqual((len(told), len(moves)), (1, 4))


class ErrorsTest(Case):
    def test_no_plan_and_too_wide(self):
        for function in ALL:
            self.fails(NoPlan, {}, function, EMPTY)
            self.fails(TooWide, {"most": 4}, function, WIDE)
            self.fails(NoPlan, {}, function, WIDE_EMPTY)
        for function, rest in ((is_mixed, ()), (some_mix, ()), (shows_mix, (None,))):
            self.fails(NoPlan, {}, function, EMPTY, ((0, 1), (0, 1)), *rest)
            self.fails(TooWide, {"most": 4}, function, WIDE, ORIGIN, *rest)
            self.fails(NoPlan, {}, function, WIDE_EMPTY, ORIGIN, *rest)
            for wrong in (*STRANGERS, EMPTY[:2], list(FOOD)):
                self.fails(BadTask, {"index": None}, function, wrong, None, *rest)
            for wrong in (*no_plans(), None):
                self.fails(BadPlan, {}, function, FOOD, wrong, *rest)
            for wrong in (None, (), ((0, 1),), ((0, 1), (0, 2))):
                for task in (EMPTY, WIDE, WIDE_EMPTY):
                    self.fails(BadPlan, {}, function, task, wrong, *rest)
