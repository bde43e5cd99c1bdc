"""The other side, first ones, live and dear: promises 1, 8, 9 and 10."""

import random

from costpapers.errors import NoOther, NotBest
from costpapers.other import (
    best_range, dear_columns, endings, first_paper, first_plan, fits_together, is_one_paper, is_one_plan, live_columns,
    loose_rows, other_side, paid_rows, paper_range,
)
from costpapers.solve import ending, some_paper, some_plan
from costpapers.tasks import plain
from tests import reckon
from tests.reckon import dot, fractions, one_at, pair
from tests.samples import BARE, FOOD, TASKS, Case
from tests.test_solve import EMPTY, FALLING, KNOWN, some_ratios

FULL_PAPERS = (first_paper, is_one_paper, dear_columns, paid_rows)
FULL_PLANS = (first_plan, is_one_plan, live_columns, loose_rows)
SEVERAL = ("++", (1, 1), (((1, 1), ">=", 2),))
# No least best plan; no least paper that promises the least cost; no least best plan, by its last column alone.
NO_FIRST = ("*+", (0, 1), (((0, 1), ">=", 3),))
NO_FIRST_PAPER = ("*", (0,), (((1,), "<=", 0), ((1,), ">=", 0)))
LATE = ("+*", (1, 0), (((1, 0), ">=", 0), ((0, 1), "<=", 4), ((0, 1), "<=", 5)))


def best_tasks():
    """Many tasks that end "best", of up to six columns and eight rows."""
    told = [*TASKS, *(task for task, _, _ in KNOWN), NO_FIRST, NO_FIRST_PAPER, LATE]
    yield from (task for task in told if ending(task) == "best")
    yield from reckon.some_best_tasks(21, 150)
    yield from reckon.some_best_tasks(22, 40, (4, 6), (4, 8), 3)


def turned(task):
    """The other side, written down once more."""
    kinds, costs, rows = plain(task)
    sides = "".join("*" if row[1] == "=" else "+" for row in rows)
    columns = tuple(
        (tuple(-row[0][at] for row in rows), "=" if kind == "*" else ">=", -costs[at]) for at, kind in enumerate(kinds)
    )
    return sides, tuple(-row[2] for row in rows), columns


def both(low_and_high):
    return tuple(pair(item) for item in low_and_high)


class ExamplesTest(Case):
    def test_examples(self):
        self.gives(("+++", (-8, -9, 6), (((-1, -3, 1), ">=", -2), ((-2, -1, 0), ">=", -3))), other_side, FOOD)
        self.gives(("best", "best"), endings, FOOD)
        self.gives(((2, 1), (3, 1)), first_plan, FOOD)
        self.gives(((7, 5), (1, 5), (0, 1)), first_paper, FOOD)
        self.gives(True, is_one_plan, FOOD)
        self.gives(((2, 1), (2, 1)), best_range, FOOD, 0)
        self.gives(((0, 1), (0, 1)), paper_range, FOOD, 2)
        self.gives((0, 1), live_columns, FOOD)
        self.gives((), dear_columns, FOOD)
        self.gives((2,), loose_rows, FOOD)
        self.gives((0, 1), paid_rows, FOOD)
        self.gives(True, fits_together, FOOD, ((2, 1), (3, 1)), ((7, 5), (1, 5), (0, 1)))


class OtherSideTest(Case):
    def tasks(self):
        yield from TASKS
        yield from (task for task, _, _ in KNOWN)
        yield from reckon.some_tasks(23, 300, (1, 4), (0, 4), 2)
        yield from reckon.some_tasks(24, 100, (1, 6), (1, 8), 2)

    def test_by_its_definition(self):
        for task in self.tasks():
            if 1 <= len(task[2]) <= 6:
                self.gives(turned(task), other_side, task)
                self.gives(plain(task), lambda one: other_side(other_side(one)), task)
            else:
                self.fails(NoOther, {}, other_side, task)

    def test_its_plans_are_papers(self):
        chance = random.Random(1)
        for task in self.tasks():
            if 1 <= len(task[2]) <= 6:
                kinds, costs, rows = plain(task)
                other = other_side(task)
                for _ in range(4):
                    weights = fractions(some_ratios(chance, len(rows)))
                    holds = reckon.holds_paper(kinds, costs, rows, weights)
                    self.assertEqual(reckon.holds_plan(other[0], other[2], weights), holds, task)
                    self.assertEqual(dot(other[1], weights), -dot(reckon.rights_of(rows), weights), task)

    def test_endings(self):
        found = []
        for task in self.tasks():
            kinds, costs, rows = turned(task)
            other = reckon.least(kinds, rows, costs)
            told = (ending(task), other if isinstance(other, str) else "best")
            found.append(told)
            self.gives(told, endings, task)
        for told in (("best", "best"), ("none", "endless"), ("endless", "none"), ("none", "none")):
            self.assertGreater(found.count(told), 10, told)

    def test_endings_of_some(self):
        for task, told in (
            (BARE, ("best", "best")), (FALLING, ("endless", "none")), (EMPTY, ("none", "endless")),
            (("+", (-1,), (((0,), ">=", 1),)), ("none", "none")), (("*", (1,), (((0,), "=", 1),)), ("none", "none")),
            (("+", (0,), (((0,), ">=", 1),) * 8), ("none", "endless")), (("*", (1000,), ()), ("endless", "none")),
            (("+", (1,), (((1,), "<=", 9),) * 7), ("best", "best")),
        ):
            self.gives(told, endings, task)

    def test_too_few_or_many_rows(self):
        for many in (0, 7, 8):
            self.fails(NoOther, {}, other_side, ("*", (1000,), (((1,), "=", 1000),) * many))
        for many in (1, 6):
            other = ("*" * many, (-1000,) * many, (((-1,) * many, "=", -1000),))
            self.gives(other, other_side, ("*", (1000,), (((1,), "=", 1000),) * many))


class FirstTest(Case):
    def test_first_ones(self):
        missing = 0
        for task in best_tasks():
            plan, paper = reckon.first(*reckon.best_plans(task)), reckon.first(*reckon.best_papers(task))
            missing += (plan is None) + (paper is None)
            self.gives(plan, first_plan, task)
            self.gives(paper, first_paper, task)
        self.assertGreater(missing, 20)

    def test_none_is_least(self):
        self.gives(None, first_plan, NO_FIRST)
        self.gives(((0, 1),), first_paper, ("*", (0,), (((0,), ">=", 0), ((0,), "<=", 0))[:1]))
        self.gives(None, first_paper, NO_FIRST_PAPER)
        self.gives(((0, 1), (0, 1)), first_paper, ("*", (0,), (((1,), ">=", 0), ((1,), "<=", 0))))
        self.gives(None, first_plan, LATE)
        self.gives(((0, 1), (0, 1), (0, 1)), first_paper, LATE)
        self.gives(None, first_plan, BARE)
        self.gives((), first_paper, BARE)
        self.gives(((0, 1), (2, 1)), first_plan, SEVERAL)

    def test_against_elimination(self):
        for task in reckon.some_best_tasks(25, 120, (1, 2), (0, 3)):
            kinds, rows = reckon.best_plans(task)
            for column in range(len(kinds)):
                told = reckon.span_by_elimination(kinds, rows, one_at(len(kinds), column))
                self.gives(both(told), best_range, task, column)
            sides, rows = reckon.best_papers(task)
            for index in range(len(sides)):
                told = reckon.span_by_elimination(sides, rows, one_at(len(sides), index))
                self.gives(both(told), paper_range, task, index)

    def test_ranges_and_single_ones(self):
        single = 0
        for task in best_tasks():
            plans, papers = reckon.ranges(*reckon.best_plans(task)), reckon.ranges(*reckon.best_papers(task))
            for column, told in enumerate(plans):
                self.gives(both(told), best_range, task, column)
            for index, told in enumerate(papers):
                self.gives(both(told), paper_range, task, index)
            self.gives(all(None not in told and told[0] == told[1] for told in plans), is_one_plan, task)
            self.gives(all(None not in told and told[0] == told[1] for told in papers), is_one_paper, task)
            single += is_one_plan(task) + 1000 * is_one_paper(task)
        self.assertGreater(single // 1000, 20)
        self.assertGreater(single - single // 1000 * 1000, 20)

    def test_some_ranges(self):
        self.gives(((0, 1), (2, 1)), best_range, SEVERAL, 0)
        self.gives((None, None), best_range, BARE, 0)
        self.gives(((0, 1), None), best_range, ("+", (0,), ()), 0)
        self.gives((None, (5, 2)), best_range, ("*", (0,), (((2,), "<=", 5),)), 0)
        self.gives((None, (0, 1)), paper_range, NO_FIRST_PAPER, 0)
        self.gives(((0, 1), None), paper_range, NO_FIRST_PAPER, 1)
        self.gives((None, None), paper_range, ("*", (0,), (((1,), "=", 0), ((1,), "=", 0))), 1)
        self.gives(((0, 1), (1, 2)), paper_range, ("+", (1,), (((2,), ">=", 0),)), 0)
        self.gives(False, is_one_plan, SEVERAL)
        self.gives(True, is_one_paper, SEVERAL)
        self.gives(True, is_one_paper, BARE)
        self.gives(False, is_one_plan, BARE)


class LiveAndDearTest(Case):
    def test_by_their_definitions(self):
        for task in best_tasks():
            kinds, costs, rows = task
            plans, papers = reckon.best_plans(task), reckon.best_papers(task)
            plus = [column for column, kind in enumerate(kinds) if kind == "+"]
            highs = [high for _, high in reckon.ranges(*plans)]
            self.gives(tuple(at for at in plus if highs[at] is None or highs[at] > 0), live_columns, task)
            lows = [reckon.span(*papers, tuple(row[0][at] for row in rows))[0] for at in range(len(kinds))]
            self.gives(tuple(at for at in plus if lows[at] is None or lows[at] < costs[at]), dear_columns, task)
            uneven = [index for index, row in enumerate(rows) if row[1] != "="]
            sums = [reckon.span(*plans, row[0]) for row in rows]
            told = tuple(index for index in uneven if sums[index] != (rows[index][2], rows[index][2]))
            self.gives(told, loose_rows, task)
            weights = reckon.ranges(*papers)
            self.gives(tuple(index for index in uneven if weights[index] != (0, 0)), paid_rows, task)

    def test_each_is_one_of_two(self):
        for task in best_tasks():
            kinds, _, rows = task
            plus = [column for column, kind in enumerate(kinds) if kind == "+"]
            uneven = [index for index, row in enumerate(rows) if row[1] != "="]
            self.assertEqual(sorted(live_columns(task) + dear_columns(task)), plus, task)
            self.assertEqual(sorted(loose_rows(task) + paid_rows(task)), uneven, task)

    def test_other_kinds_are_not_told(self):
        task = ("*", (1,), (((1,), "=", 5),))
        for function in (live_columns, dear_columns, loose_rows, paid_rows):
            self.gives((), function, task)
        self.gives((0,), paid_rows, ("*", (1,), (((1,), ">=", 5),)))
        self.gives((0, 1), loose_rows, ("*", (0,), (((1,), ">=", 5), ((1,), "<=", 6))))
        self.gives((0,), live_columns, ("+", (0,), ()))
        self.gives((0,), dear_columns, ("+", (1,), ()))

    def test_fits_together(self):
        chance = random.Random(2)
        for task in [*best_tasks(), *reckon.some_tasks(26, 60)]:
            kinds, costs, rows = task
            plans = [some_ratios(chance, len(kinds)), ((0, 1),) * len(kinds)]
            papers = [some_ratios(chance, len(rows)), ((0, 1),) * len(rows)]
            if ending(task) == "best":
                plans.append(some_plan(task))
                papers.append(some_paper(task))
                self.gives(True, fits_together, task, plans[-1], papers[-1])
            for plan in plans:
                for paper in papers:
                    self.gives(self.fit(task, fractions(plan), fractions(paper)), fits_together, task, plan, paper)

    def fit(self, task, plan, paper):
        kinds, costs, rows = task
        for row, weight in zip(rows, paper):
            if weight and dot(row[0], plan) != row[2]:
                return False
        sums = [dot([row[0][at] for row in rows], paper) for at in range(len(kinds))]
        return all(not item or told == price for item, told, price in zip(plan, sums, costs))

    def test_what_fits_need_not_be_a_plan_or_a_paper(self):
        task = ("+", (1,), (((-1,), ">=", 1),))
        self.gives(True, fits_together, task, ((-1, 1),), ((-1, 1),))
        self.gives(True, fits_together, task, ((0, 1),), ((0, 1),))
        self.gives(False, fits_together, task, ((0, 1),), ((1, 1),))
        self.gives(False, fits_together, task, ((-1, 1),), ((0, 1),))
        self.gives(True, fits_together, ("*", (0,), ()), ((7, 1),), ())
        self.gives(False, fits_together, ("*", (1,), ()), ((7, 1),), ())


class NotBestTest(Case):
    def test_tasks_that_do_not_end_best(self):
        for task in (FALLING, EMPTY, ("*", (1,), ()), ("+", (-1,), (((0,), ">=", 1),))):
            for function in FULL_PAPERS + FULL_PLANS:
                self.fails(NotBest, {}, function, task)
            for column in range(len(task[0])):
                self.fails(NotBest, {}, best_range, task, column)
            for index in range(len(task[2])):
                self.fails(NotBest, {}, paper_range, task, index)
