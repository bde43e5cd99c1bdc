"""The set of plans, and what follows: promises 1, 13 and 14."""

import random
from fractions import Fraction

from costpapers.sets import (
    always_tight, always_zero, dimension, far_most, follows, has_plan, is_bounded, is_within, needless, same_set,
    shows_follows, slack_span, some_follow, span, thinned,
)
from costpapers.solve import ending
from tests import reckon
from tests.reckon import dot, fractions, least, one_at, pair
from tests.samples import BARE, FOOD, TASKS, Case
from tests.test_solve import EMPTY, KNOWN, some_ratios

ABOVE_FIVE = ("++", (0, 0), (((1, 1), ">=", 5),))
POINT = ("+*", (0, 0), (((1, 1), "=", 2), ((1, 0), "<=", 0)))
LINE = ("**", (0, 0), (((1, -1), ">=", 0), ((2, -2), "<=", 0)))
TRIANGLE = ("++", (0, 0), (((1, 1), "<=", 1),))


def tasks_with_plans():
    """Many tasks that have plans, of up to six columns and eight rows."""
    told = [*TASKS, *(task for task, _, _ in KNOWN), POINT, LINE, TRIANGLE]
    yield from (task for task in told if ending(task) != "none")
    yield from (task for task in reckon.some_tasks(41, 150, (1, 3), (0, 4), 2) if ending(task) != "none")
    yield from reckon.some_best_tasks(42, 60)
    yield from reckon.some_best_tasks(43, 25, (4, 6), (4, 8), 3)


def both(low_and_high):
    return tuple(pair(item) for item in low_and_high)


def some_row(chance, many, reach=2):
    return reckon.numbers_from(chance, many, reach), chance.choice((">=", "<=", "=")), chance.randint(-reach, reach)


def without(rows, index):
    return rows[:index] + rows[index + 1:]


class ExamplesTest(Case):
    def test_examples(self):
        self.gives(True, has_plan, FOOD)
        self.gives((), always_tight, FOOD)
        self.gives(2, dimension, FOOD)
        self.gives(False, is_bounded, FOOD)
        self.gives(((5, 1), None), span, FOOD, (1, 1))
        self.gives(((0, 1), None), slack_span, FOOD, 0)
        self.gives((6, 1), far_most, FOOD)
        self.gives(True, follows, FOOD, ((1, 1), ">=", 5))
        self.gives((), needless, FOOD)
        self.gives(True, is_within, FOOD, ABOVE_FIVE)
        self.gives(False, same_set, FOOD, ABOVE_FIVE)


class SetTest(Case):
    def test_has_plan(self):
        for task in [*(task for task, _, _ in KNOWN), *reckon.some_tasks(44, 200)]:
            self.gives(least(task[0], task[2], (0,) * len(task[0])) != "none", has_plan, task)

    def test_by_their_definitions(self):
        flat = 0
        for task in tasks_with_plans():
            kinds, _, rows = task
            tight = [at for at, row in enumerate(rows) if reckon.span(kinds, rows, row[0]) == (row[2], row[2])]
            spans = reckon.ranges(kinds, rows)
            zero = [at for at, told in enumerate(spans) if told == (0, 0)]
            self.gives(tuple(tight), always_tight, task)
            self.gives(tuple(zero), always_zero, task)
            equal = [rows[at][0] for at in tight] + [one_at(len(kinds), at) for at in zero if kinds[at] == "+"]
            self.gives(len(kinds) - reckon.rank(equal), dimension, task)
            flat += len(kinds) > dimension(task)
            self.gives(all(None not in told for told in spans), is_bounded, task)
        self.assertGreater(flat, 50)

    def test_some_sets(self):
        for task, size, bounded, tight, zero in (
            (BARE, 1, False, (), ()), (POINT, 0, True, (0, 1), (0,)), (LINE, 1, False, (0, 1), ()),
            (TRIANGLE, 2, True, (), ()), (("+" * 6, (0,) * 6, ()), 6, False, (), ()),
            (("*" * 6, (0,) * 6, (((1,) * 6, "=", 0),) * 8), 5, False, tuple(range(8)), ()),
            (("*", (0,), (((0,), "<=", 0), ((0,), ">=", 0), ((0,), "=", 0), ((0,), "<=", 1))), 1, False, (0, 1, 2), ()),
            (("+*", (0, 0), (((1, 0), "<=", 0), ((0, 1), "=", 0))), 0, True, (0, 1), (0, 1)),
            (("**", (0, 0), (((1, 0), "=", 0), ((0, 1), "<=", 0))), 1, False, (0,), (0,)),
        ):
            self.gives(size, dimension, task)
            self.gives(bounded, is_bounded, task)
            self.gives(tight, always_tight, task)
            self.gives(zero, always_zero, task)

    def test_spans(self):
        chance, open_ends = random.Random(45), 0
        for task in tasks_with_plans():
            kinds, _, rows = task
            for numbers in (reckon.numbers_from(chance, len(kinds), 3), (0,) * len(kinds), (1000,) * len(kinds)):
                told = reckon.span(kinds, rows, numbers)
                open_ends += told.count(None)
                self.gives(both(told), span, task, numbers)
        self.assertGreater(open_ends, 50)

    def test_spans_against_elimination(self):
        chance = random.Random(46)
        for task in reckon.some_tasks(47, 300):
            numbers = reckon.numbers_from(chance, len(task[0]), 2)
            told = reckon.span_by_elimination(task[0], task[2], numbers)
            if told is not None:
                self.gives(both(told), span, task, numbers)

    def test_slack_spans(self):
        for task in tasks_with_plans():
            kinds, _, rows = task
            for index, (numbers, sign, right) in enumerate(rows):
                low, high = reckon.span(kinds, rows, numbers)
                if sign == "<=":
                    low, high = None if high is None else -high, None if low is None else -low
                    right = -right
                told = (pair(None if low is None else low - right), pair(None if high is None else high - right))
                self.gives(told, slack_span, task, index)
        self.gives(((0, 1), (0, 1)), slack_span, POINT, 0)
        self.gives(((0, 1), (1, 1)), slack_span, TRIANGLE, 0)
        self.gives(((3, 1), None), slack_span, ("+", (0,), (((1,), ">=", -3),)), 0)
        self.gives(((0, 1), (3, 1)), slack_span, ("+", (0,), (((1,), "<=", 3),)), 0)

    def test_far_most(self):
        found = []
        for task in tasks_with_plans():
            kinds, _, rows = task
            side = {">=": -1, "<=": 1, "=": 0}
            wider = [((*numbers, side[sign]), sign, right) for numbers, sign, right in rows]
            _, most = reckon.span(kinds + "+", wider, one_at(len(kinds) + 1, len(kinds)))
            found.append(most)
            self.gives(pair(most), far_most, task)
        self.assertGreater(found.count(None), 20)
        self.assertGreater(found.count(0), 20)
        self.gives(None, far_most, BARE)
        self.gives(None, far_most, ("+", (0,), (((1,), "=", 3),)))
        self.gives((0, 1), far_most, POINT)
        self.gives((1, 1), far_most, TRIANGLE)
        self.gives((1, 2), far_most, ("*", (0,), (((1,), ">=", 0), ((1,), "<=", 1))))
        self.gives((0, 1), far_most, ("*", (0,), (((0,), ">=", 0),)))


class FollowsTest(Case):
    def cases(self):
        chance = random.Random(48)
        for task in tasks_with_plans():
            for _ in range(3):
                yield task, some_row(chance, len(task[0]))
            for row in task[2][:3]:
                yield task, row
            yield task, ((0,) * len(task[0]), chance.choice((">=", "<=", "=")), chance.choice((-1, 0, 1)))
            low, _ = reckon.span(task[0], task[2], one_at(len(task[0]), 0))
            if low is not None and abs(low.numerator) < 1000 and low.denominator < 1000:
                yield task, ((low.denominator, *(0,) * (len(task[0]) - 1)), ">=", low.numerator)

    def test_by_its_definition(self):
        found = []
        for task, row in self.cases():
            kinds, _, rows = task
            holds = reckon.all_keep(kinds, rows, [row])
            found.append((holds, row[1]))
            self.gives(holds, follows, task, row)
            paper = some_follow(task, row)
            if not holds or row[1] == "=":
                self.gives(None, some_follow, task, row)
            else:
                self.assertTrue(self.shown(task, row, fractions(paper)), (task, row, paper))
                self.gives(True, shows_follows, task, row, paper)
        for sign in (">=", "<=", "="):
            self.assertGreater(found.count((True, sign)), 20)
            self.assertGreater(found.count((False, sign)), 20)

    def shown(self, task, row, weights):
        kinds, _, rows = task
        numbers, sign, right = row
        side = -1 if sign == "<=" else 1
        costs = [side * item for item in numbers]
        promised = dot(reckon.rights_of(rows), weights)
        return reckon.holds_paper(kinds, costs, rows, weights) and promised >= side * right

    def test_shows_follows(self):
        chance, found = random.Random(49), 0
        for task in [*tasks_with_plans(), EMPTY, *reckon.some_tasks(50, 100, (1, 2), (0, 2), 1)]:
            for _ in range(4):
                row, paper = some_row(chance, len(task[0]), 1), some_ratios(chance, len(task[2]), 1)
                told = row[1] != "=" and self.shown(task, row, fractions(paper))
                found += told
                self.gives(told, shows_follows, task, row, paper)
        self.assertGreater(found, 20)
        self.gives(True, shows_follows, TRIANGLE, ((1, 1), "<=", 2), ((-1, 1),))
        self.gives(True, shows_follows, TRIANGLE, ((1, 0), "<=", 1), ((-1, 1),))
        self.gives(False, shows_follows, TRIANGLE, ((1, 1), "<=", 0), ((-1, 1),))
        self.gives(False, shows_follows, TRIANGLE, ((1, 1), "=", 1), ((-1, 1),))
        self.gives(True, shows_follows, TRIANGLE, ((1, 0), ">=", 0), ((0, 1),))

    def test_needless_and_thinned(self):
        found = 0
        for task in tasks_with_plans():
            kinds, costs, rows = task
            told = tuple(at for at, row in enumerate(rows) if reckon.all_keep(kinds, without(rows, at), [row]))
            found += len(told) > 1
            self.gives(told, needless, task)
            left = rows
            for at in reversed(range(len(rows))):
                if reckon.all_keep(kinds, without(left, at), [rows[at]]):
                    left = without(left, at)
            self.gives((kinds, costs, left), thinned, task)
        self.assertGreater(found, 20)

    def test_the_last_ones_are_left_out_first(self):
        twice = ("+", (7,), (((1,), "<=", 5), ((2,), "<=", 10), ((1,), ">=", -1)))
        self.gives((0, 1, 2), needless, twice)
        self.gives(("+", (7,), twice[2][:1]), thinned, twice)
        self.gives((), needless, BARE)
        self.gives(BARE, thinned, BARE)
        self.gives((0, 1, 2), needless, ("*", (0,), (((1,), "=", 1), ((2,), "=", 2), ((0,), "=", 0))))

    def test_is_within(self):
        found = []
        chance = random.Random(51)
        tasks = [*tasks_with_plans(), EMPTY, *reckon.some_tasks(52, 60, (1, 2), (0, 2), 1)]
        for _ in range(1500):
            one, other = chance.choice(tasks), chance.choice(tasks)
            told = self.within(one, other)
            found.append(told)
            self.gives(told, is_within, one, other)
            self.gives(told and self.within(other, one), same_set, one, other)
        self.assertGreater(found.count(True), 100)
        for task in tasks:
            self.gives(True, is_within, task, task)
            self.gives(True, same_set, task, (task[0], (0,) * len(task[0]), task[2][::-1]))

    def within(self, one, other):
        if len(one[0]) != len(other[0]):
            return False
        if least(one[0], one[2], (0,) * len(one[0])) == "none":
            return True
        return reckon.all_keep(one[0], one[2], reckon.limits(other[0], other[2]))

    def test_some_within(self):
        empty = ("+", (0,), (((1,), "<=", -1),))
        self.gives(True, is_within, empty, ("*", (0,), (((1,), "=", 5),)))
        self.gives(False, is_within, ("*", (0,), (((1,), "=", 5),)), empty)
        self.gives(False, is_within, empty, ("**", (0, 0), ()))
        self.gives(False, is_within, ("**", (0, 0), ()), ("*", (0,), ()))
        self.gives(True, same_set, empty, ("*", (0,), (((0,), ">=", 1),)))
        self.gives(False, same_set, empty, ("**", (0, 0), (((0, 0), ">=", 1),)))
        self.gives(True, is_within, ("+", (3,), ()), ("*", (5,), ()))
        self.gives(False, is_within, ("*", (3,), ()), ("+", (5,), ()))
        self.gives(True, same_set, ("+", (3,), ()), ("*", (5,), (((2,), ">=", 0),)))

    def test_fractions(self):
        half = ("*", (0,), (((2,), ">=", 1),))
        self.gives(True, follows, half, ((1000,), ">=", 500))
        self.gives(False, follows, half, ((999,), ">=", 500))
        self.assertEqual(Fraction(*span(half, (3,))[0]), Fraction(3, 2))
