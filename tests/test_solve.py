"""How a task ends, and its papers, reasons and ways: promises 1, 5, 6 and 7."""

import random
from math import gcd

from costpapers.errors import NotBest
from costpapers.solve import (
    best_cost, ending, is_paper, is_reason, is_way, promise, shows_best, some_paper, some_plan, some_reason, some_way,
)
from tests import reckon
from tests.reckon import dot, fractions, pair
from tests.samples import BARE, BROAD, FOOD, FULL, LIMITS, MIXED, TASKS, Case

PAPER = ((7, 5), (1, 5), (0, 1))
EMPTY = ("++", (0, 0), (((1, 1), ">=", 3), ((1, 0), "<=", 1), ((0, 1), "<=", 1)))
FALLING = ("+", (-1,), ())

# Tasks with how they end and what is least, found by hand.
KNOWN = (
    (FOOD, "best", (13, 1)), (EMPTY, "none", None), (FALLING, "endless", None),
    (BARE, "best", (0, 1)), (("*", (1,), ()), "endless", None), (("*", (-1,), ()), "endless", None),
    (("+", (0,), ()), "best", (0, 1)), (("+", (3,), ()), "best", (0, 1)), (("+*", (1, 0), ()), "best", (0, 1)),
    (("+" * 6, (0, 1, 2, 3, 4, 5), ()), "best", (0, 1)), (("+" * 6, (5, 4, 3, 2, 1, -1), ()), "endless", None),
    (("*" * 6, (0,) * 6, ()), "best", (0, 1)), (("*" * 6, (0, 0, 0, 0, 0, 1), ()), "endless", None),
    (LIMITS, "best", (1000, 1)), (MIXED, "best", (20, 1)),
    (("*", (2,), (((3,), "=", -1),)), "best", (-2, 3)), (("+", (2,), (((3,), "=", -1),)), "none", None),
    (("*", (2,), (((3,), "=", 1), ((3,), "=", 2))), "none", None),
    (("*", (2,), (((3,), "=", 1), ((6,), "=", 2))), "best", (2, 3)),
    (("*", (0,), (((0,), "=", 1),)), "none", None), (("*", (0,), (((0,), "=", 0),)), "best", (0, 1)),
    (("*", (1,), (((0,), "=", 0),)), "endless", None), (("*", (-1,), (((0,), ">=", 1),)), "none", None),
    (("+", (-1,), (((0,), "<=", -1),)), "none", None), (("+", (-1,), (((0,), "<=", 0),)), "endless", None),
    (("*", (1,), (((2,), ">=", 5),)), "best", (5, 2)), (("*", (1,), (((2,), "<=", 5),)), "endless", None),
    (("*", (-1,), (((2,), "<=", -5),)), "best", (5, 2)), (("+", (-1,), (((2,), "<=", -5),)), "none", None),
    (("+", (7,), (((1,), "<=", 5), ((1,), ">=", 5))), "best", (35, 1)),
    (("+", (7,), (((1,), "<=", 5), ((1,), ">=", 6))), "none", None),
    (("++", (1, 1), (((1, 1), ">=", 2),)), "best", (2, 1)), (("++", (-1, 1), (((1, -1), "<=", 2),)), "best", (-2, 1)),
    (("++", (-2, 1), (((1, -1), "<=", 2),)), "endless", None), (("**", (1, -1), (((1, -1), "=", 7),)), "best", (7, 1)),
    (("**", (1, 1), (((1, -1), "=", 7),)), "endless", None),
    # A task on which choices of the steepest part come again for ever.
    (("++++", (-10, 57, 9, 24), (((1, -11, -5, 18), "<=", 0), ((1, -3, -1, 2), "<=", 0), ((1, 0, 0, 0), "<=", 1))),
     "best", (-1, 1)),
)


def all_tasks():
    """Many tasks of up to six columns and eight rows."""
    yield from TASKS
    yield from (task for task, _, _ in KNOWN)
    yield from reckon.some_tasks(1, 400)
    yield from reckon.some_tasks(2, 300, (4, 6), (0, 5), 9)
    yield from reckon.some_tasks(3, 300, (4, 6), (5, 8), 1000)
    yield from reckon.some_best_tasks(4, 300)
    yield from reckon.some_best_tasks(5, 300, (4, 6), (4, 8), 5)


def some_ratios(chance, many, reach=2):
    """Ratios, most of them small and whole."""
    told = []
    for _ in range(many):
        top, low = chance.randint(-reach, reach), chance.choice((1, 1, 1, 2))
        told.append((top // gcd(top, low), low // gcd(top, low)))
    return tuple(told)


class ExamplesTest(Case):
    def test_examples(self):
        self.gives("best", ending, FOOD)
        self.gives((13, 1), best_cost, FOOD)
        self.gives(True, is_paper, FOOD, PAPER)
        self.gives((13, 1), promise, FOOD, PAPER)
        self.gives(True, shows_best, FOOD, ((2, 1), (3, 1)), PAPER)
        self.gives("none", ending, EMPTY)
        self.gives(True, is_reason, EMPTY, ((1, 1), (-1, 1), (-1, 1)))
        self.gives(True, is_way, FALLING, ((1, 1),))
        self.fails(NotBest, {}, some_paper, FALLING)


class EndsTest(Case):
    def test_known_tasks(self):
        for task, end, least in KNOWN:
            self.gives(end, ending, task)
            self.gives(least, best_cost, task)

    def test_all_ends_come_up(self):
        ends = [ending(task) for task in all_tasks()]
        for end in ("none", "endless", "best"):
            self.assertGreater(ends.count(end), 200, end)

    def test_each_end_is_shown_by_sums(self):
        for task in all_tasks():
            getattr(self, f"looks_{ending(task)}")(task)

    def looks_best(self, task):
        kinds, costs, rows = task
        plan, paper = some_plan(task), some_paper(task)
        self.are_ratios(plan, len(kinds))
        self.are_ratios(paper, len(rows))
        self.assertTrue(reckon.holds_plan(kinds, rows, fractions(plan)), task)
        self.assertTrue(reckon.holds_paper(kinds, costs, rows, fractions(paper)), task)
        least = dot(costs, fractions(plan))
        self.assertEqual(least, dot(reckon.rights_of(rows), fractions(paper)), task)
        self.gives(pair(least), best_cost, task)
        self.gives(True, shows_best, task, plan, paper)
        self.gives(None, some_reason, task)
        self.gives(None, some_way, task)

    def looks_endless(self, task):
        kinds, costs, rows = task
        plan, way = some_plan(task), some_way(task)
        self.are_ratios(plan, len(kinds))
        self.assertTrue(reckon.holds_plan(kinds, rows, fractions(plan)), task)
        self.assertEqual([type(item) for item in way], [int] * len(kinds), task)
        self.assertEqual(gcd(*way), 1, task)
        self.assertTrue(type(way) is tuple and reckon.holds_way(kinds, costs, rows, way), task)
        self.gives(True, is_way, task, tuple((item, 1) for item in way))
        self.gives(None, best_cost, task)
        self.gives(None, some_reason, task)
        self.fails(NotBest, {}, some_paper, task)

    def looks_none(self, task):
        kinds, _, rows = task
        reason = some_reason(task)
        self.are_ratios(reason, len(rows))
        self.assertTrue(reckon.holds_reason(kinds, rows, fractions(reason)), task)
        self.gives(True, is_reason, task, reason)
        self.gives(None, some_plan, task)
        self.gives(None, best_cost, task)
        self.gives(None, some_way, task)
        self.fails(NotBest, {}, some_paper, task)

    def are_ratios(self, value, many):
        self.assertIs(type(value), tuple)
        self.assertEqual(len(value), many)
        for top, low in value:
            self.assertEqual((type(top), type(low)), (int, int))
            self.assertTrue(low > 0 and gcd(top, low) == 1, value)

    def test_against_elimination(self):
        for task in [*reckon.some_tasks(6, 400), *reckon.some_best_tasks(7, 200), *(task for task, _, _ in KNOWN[:-1])]:
            if len(task[0]) < 4:
                kinds, costs, rows = task
                told = reckon.span_by_elimination(kinds, rows, costs)
                end = "none" if told is None else "endless" if told[0] is None else "best"
                self.gives(end, ending, task)
                self.gives(pair(told[0]) if end == "best" else None, best_cost, task)


class PapersTest(Case):
    def tasks(self):
        return [*TASKS, *(task for task, _, _ in KNOWN), *reckon.some_tasks(8, 200, (1, 3), (0, 3), 1)]

    def test_papers_by_their_sums(self):
        chance, found = random.Random(1), 0
        for task in self.tasks():
            kinds, costs, rows = task
            for _ in range(12):
                paper = some_ratios(chance, len(rows))
                holds = reckon.holds_paper(kinds, costs, rows, fractions(paper))
                found += holds
                self.gives(holds, is_paper, task, paper)
                self.gives(pair(dot(reckon.rights_of(rows), fractions(paper))), promise, task, paper)
                self.gives(reckon.holds_reason(kinds, rows, fractions(paper)), is_reason, task, paper)
        self.assertGreater(found, 100)

    def test_ways_by_their_sums(self):
        chance, found = random.Random(2), 0
        for task in self.tasks():
            kinds, costs, rows = task
            for _ in range(12):
                way = some_ratios(chance, len(kinds))
                holds = reckon.holds_way(kinds, costs, rows, fractions(way))
                found += holds
                self.gives(holds, is_way, task, way)
        self.assertGreater(found, 100)

    def test_shows_best(self):
        chance = random.Random(3)
        for task in reckon.some_best_tasks(9, 150):
            kinds, costs, rows = task
            plan, paper = some_plan(task), some_paper(task)
            plans = [plan, some_ratios(chance, len(kinds)), tuple((top + low, low) for top, low in plan)]
            for one in plans:
                for other in (paper, some_ratios(chance, len(rows)), ((0, 1),) * len(rows)):
                    holds = reckon.holds_plan(kinds, rows, fractions(one))
                    holds = holds and reckon.holds_paper(kinds, costs, rows, fractions(other))
                    equal = dot(costs, fractions(one)) == dot(reckon.rights_of(rows), fractions(other))
                    self.gives(holds and equal, shows_best, task, one, other)

    def test_signs_of_weights(self):
        rows = (((1,), ">=", 0), ((1,), "<=", 0), ((1,), "=", 0))
        for weights, answer in (
            (((1, 1), (0, 1), (0, 1)), True), (((-1, 1), (0, 1), (2, 1)), False), (((0, 1), (-1, 1), (2, 1)), True),
            (((0, 1), (1, 1), (0, 1)), False), (((0, 1), (0, 1), (1, 1)), True), (((2, 1), (0, 1), (-1, 1)), True),
            (((1, 2), (0, 1), (0, 1)), False),
        ):
            self.gives(answer, is_paper, ("*", (1,), rows), weights)
        self.gives(True, is_paper, ("+", (1,), rows), ((1, 2), (0, 1), (0, 1)))
        self.gives(False, is_paper, ("+", (1,), rows), ((3, 2), (0, 1), (0, 1)))

    def test_no_rows(self):
        for costs, answer in (((0, 0), True), ((1, 0), True), ((0, 1), False), ((0, -1), False), ((-1, 0), False)):
            self.gives(answer, is_paper, ("+*", costs, ()), ())
            self.gives((0, 1), promise, ("+*", costs, ()), ())
            self.gives(False, is_reason, ("+*", costs, ()), ())
        self.gives((), some_paper, ("+*", (1, 0), ()))
        self.gives(None, some_reason, ("+*", (1, 1), ()))
        self.gives((-1,), some_way, ("*", (5,), ()))
        self.gives(True, shows_best, BARE, ((9, 7),), ())

    def test_a_reason_promises_more_than_nothing(self):
        self.gives(False, is_reason, ("+", (0,), (((0,), ">=", 0),)), ((1, 1),))
        self.gives(True, is_reason, ("+", (0,), (((0,), ">=", 1),)), ((1, 1000),))
        self.gives(False, is_reason, ("+", (0,), (((0,), ">=", 1),)), ((0, 1),))
        self.gives(True, is_reason, ("+", (-5,), (((-1,), ">=", 1),)), ((1, 1),))
        self.gives(False, is_reason, ("*", (-5,), (((-1,), ">=", 1),)), ((1, 1),))

    def test_a_way_costs_less_than_nothing(self):
        self.gives(False, is_way, ("+", (0,), ()), ((1, 1),))
        self.gives(False, is_way, ("+", (1,), ()), ((1, 1),))
        self.gives(False, is_way, ("+", (1,), ()), ((-1, 1),))
        self.gives(True, is_way, ("*", (1,), ()), ((-1, 7),))
        self.gives(True, is_way, ("*", (1,), (((1,), "<=", 1000),)), ((-1, 7),))
        self.gives(False, is_way, ("*", (1,), (((1,), ">=", -1000),)), ((-1, 7),))
        # A task without a plan may have a way all the same.
        self.gives(True, is_way, ("++", (-1, 0), (((0, 1), "=", -1),)), ((1, 1), (0, 1)))

    def test_very_large_ratios(self):
        large = 10 ** 3000
        self.gives(False, is_paper, ("+", (1,), (((1,), ">=", 1000),)), ((large + 1, large),))
        self.gives(True, is_paper, ("+", (1,), (((1,), ">=", 1000),)), ((large - 1, large),))
        self.gives((large - 1, large // 1000), promise, ("+", (1,), (((1,), ">=", 1000),)), ((large - 1, large),))
        self.gives(True, is_way, ("+*", (1, -1), ()), ((large, large + 1), (1, 1)))
        self.gives(False, is_way, ("+*", (1, -1), ()), ((large + 1, large), (1, 1)))


class UnchangedTest(Case):
    def test_wide_and_full(self):
        for task in (BROAD, FULL, ("+" * 6, (1,) * 6, tuple(((1,) * 6, ">=", index) for index in range(8)))):
            for function in (ending, best_cost, some_plan, some_reason, some_way):
                self.gives(function(task), function, task)
