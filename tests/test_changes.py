"""What may change: promises 1, 11 and 12."""

import random
from fractions import Fraction

from costpapers.changes import cost_after, cost_pieces, right_pieces, same_until, worth_of_row
from costpapers.solve import ending
from tests import reckon
from tests.reckon import least, one_at, pair
from tests.samples import BARE, FOOD, TASKS, Case
from tests.test_solve import EMPTY, FALLING, KNOWN

FAR, NEAR = 10 ** 9, Fraction(1, 10 ** 9)
ZERO = (0, 1)


def all_tasks():
    """Many tasks of up to six columns and eight rows, with steps for rows and for columns."""
    chance = random.Random(31)
    tasks = [*TASKS, *(task for task, _, _ in KNOWN), *reckon.some_tasks(32, 150, (1, 3), (0, 4), 2)]
    tasks += [*reckon.some_best_tasks(33, 150), *reckon.some_best_tasks(34, 40, (4, 6), (4, 8), 3)]
    for task in tasks:
        yield task, reckon.numbers_from(chance, len(task[2]), 3), reckon.numbers_from(chance, len(task[0]), 3)


def least_later(task, steps, time):
    """The least cost, or how the task ends, when right sides have grown, with the time as a fraction."""
    kinds, costs, rows = task
    low, top = time.denominator, time.numerator
    grown = [(tuple(low * item for item in row[0]), row[1], low * row[2] + top * step) for row, step in zip(rows, steps)]
    return least(kinds, grown, costs)


def least_dearer(task, steps, time):
    """The least cost, or how the task ends, when costs have grown."""
    kinds, costs, rows = task
    low, top = time.denominator, time.numerator
    told = least(kinds, rows, [low * item + top * step for item, step in zip(costs, steps)])
    return told if isinstance(told, str) else told / low


def fraction(ratio):
    return None if ratio is None else Fraction(*ratio)


class ExamplesTest(Case):
    def test_examples(self):
        self.gives((79, 5), cost_after, FOOD, (1, 0, 0), (2, 1))
        pieces = ((None, (-5, 1), (6, 1), (0, 1)), ((-5, 1), (10, 1), (13, 1), (7, 5)), ((10, 1), None, (12, 1), (3, 2)))
        self.gives(pieces, right_pieces, FOOD, (1, 0, 0))
        self.gives(((7, 5), (7, 5)), worth_of_row, FOOD, 0)
        self.gives(((-1, 2), (7, 1)), same_until, FOOD, 0)
        self.gives((((-5, 1), None, (10, 1), (2, 1)),), cost_pieces, ("+", (5,), (((1,), ">=", 2),)), (1,))


class CostAfterTest(Case):
    def test_by_its_definition(self):
        chance, found = random.Random(35), []
        for task, steps, _ in all_tasks():
            for _ in range(3):
                time = Fraction(chance.randint(-6, 6), chance.randint(1, 4))
                told = least_later(task, steps, time)
                found.append(told)
                self.gives(None if isinstance(told, str) else pair(told), cost_after, task, steps, pair(time))
        self.assertGreater(found.count("none"), 50)
        self.assertGreater(found.count("endless"), 50)

    def test_edges(self):
        self.gives((0, 1), cost_after, BARE, (), (-7, 3))
        self.gives(None, cost_after, FALLING, (), (0, 1))
        self.gives((13, 1), cost_after, FOOD, (1000, -1000, 1000), (0, 1))
        self.gives(None, cost_after, FOOD, (0, 0, -1), (7, 1))
        self.gives((27, 1), cost_after, FOOD, (0, 0, -1), (6, 1))
        one = ("*", (1,), (((1,), "=", 2),))
        self.gives((10 ** 3000 + 2, 1), cost_after, one, (1,), (10 ** 3000, 1))
        self.gives((2 * 10 ** 3000 + 1, 10 ** 3000), cost_after, one, (1,), (1, 10 ** 3000))


class PiecesTest(Case):
    def test_right_pieces(self):
        longest = 0
        for task, steps, _ in all_tasks():
            pieces = right_pieces(task, steps)
            longest = max(longest, len(pieces))
            self.gives(pieces, right_pieces, task, steps)
            self.are_pieces(pieces, lambda time: least_later(task, steps, time), 1, (task, steps))
            self.times_with_plans(pieces, task, steps)
        self.assertGreater(longest, 2)

    def times_with_plans(self, pieces, task, steps):
        kinds, _, rows = task
        sides, sums = reckon.papers(task)
        grown = [((*row[0], -step), row[1], row[2]) for row, step in zip(rows, steps)]
        told = reckon.span(kinds + "*", grown, one_at(len(kinds) + 1, len(kinds)))
        if told is None or least(sides, sums, (0,) * len(sides)) == "none":
            self.assertEqual(pieces, (), (task, steps))
        else:
            self.assertEqual((pieces[0][0], pieces[-1][1]), tuple(pair(item) for item in told), (task, steps))

    def test_cost_pieces(self):
        longest = 0
        for task, _, steps in all_tasks():
            pieces = cost_pieces(task, steps)
            longest = max(longest, len(pieces))
            self.gives(pieces, cost_pieces, task, steps)
            self.are_pieces(pieces, lambda time: least_dearer(task, steps, time), -1, (task, steps))
        self.assertGreater(longest, 2)

    def are_pieces(self, pieces, least_then, side, told):
        """The pieces tell what is least at all their ends, between them and far out, and there is nothing beyond."""
        self.assertIs(type(pieces), tuple)
        if not pieces:
            for time in (-FAR, -1, 0, 1, FAR):
                self.assertIsInstance(least_then(Fraction(time)), str, told)
        for low, high, base, slope in pieces:
            self.gives((low, high, base, slope), lambda: tuple(pair(fraction(item)) for item in (low, high, base, slope)))
            self.is_piece(fraction(low), fraction(high), Fraction(*base), Fraction(*slope), least_then, told)
        for (_, high, _, slope), (low, _, _, steeper) in zip(pieces, pieces[1:]):
            self.assertEqual(high, low, told)
            self.assertGreater(side * Fraction(*steeper), side * Fraction(*slope), told)
        if pieces and pieces[0][0] is not None:
            self.nothing_beyond(Fraction(*pieces[0][0]), -1, least_then, told)
        if pieces and pieces[-1][1] is not None:
            self.nothing_beyond(Fraction(*pieces[-1][1]), 1, least_then, told)

    def is_piece(self, low, high, base, slope, least_then, told):
        if low is not None and low == high:
            self.assertEqual(slope, 0, told)
        else:
            self.assertTrue(low is None or high is None or low < high, told)
        start = low if low is not None else -FAR if high is None else high - FAR
        end = high if high is not None else start + 2 * FAR
        for part in (Fraction(0), Fraction(1, 3), Fraction(1, 2), Fraction(1)):
            time = start + part * (end - start)
            self.assertEqual(least_then(time), base + slope * time, (told, time))

    def nothing_beyond(self, time, side, least_then, told):
        for step in (NEAR, 1, FAR):
            self.assertIsInstance(least_then(time + side * step), str, (told, time, step))

    def test_no_pieces(self):
        self.gives((), right_pieces, FALLING, ())
        self.gives((), right_pieces, ("+", (0,), (((0,), "=", 1),)), (0,))
        self.gives((), right_pieces, ("+", (-1,), (((0,), "=", 1),)), (1,))
        self.gives((), cost_pieces, EMPTY, (1, 1))
        self.gives((), cost_pieces, ("*", (1,), ()), (0,))
        self.gives((), cost_pieces, ("**", (1, 1), ()), (1, 2))

    def test_at_one_time_alone(self):
        one = ("*", (3,), (((1,), "=", 1), ((1,), "=", 2)))
        self.gives((((1, 1), (1, 1), (6, 1), ZERO),), right_pieces, one, (1, 0))
        self.gives((((-1, 2), (-1, 2), (9, 2), ZERO),), right_pieces, one, (-1, 1))
        self.gives((((0, 1), (0, 1), ZERO, ZERO),), cost_pieces, BARE, (7,))
        self.gives((((-1, 2), (-1, 2), (3, 1), ZERO),), cost_pieces, ("**", (1, 3), (((0, 1), "=", 2),)), (2, 3))
        self.gives((((-1, 1), (-1, 1), ZERO, ZERO),), cost_pieces, ("**", (1, 2), ()), (1, 2))

    def test_at_all_times(self):
        self.gives(((None, None, ZERO, ZERO),), right_pieces, BARE, ())
        self.gives(((None, None, (13, 1), ZERO),), right_pieces, FOOD, (0, 0, 0))
        self.gives(((None, None, (13, 1), ZERO),), cost_pieces, FOOD, (0, 0))
        self.gives(((None, None, (8, 1), (-6, 1)),), right_pieces, ("*", (2,), (((1,), "=", 4),)), (-3,))
        self.gives(((None, None, (8, 1), (-12, 1)),), cost_pieces, ("*", (2,), (((1,), "=", 4),)), (-3,))
        self.gives(((None, (0, 1), ZERO, ZERO), ((0, 1), None, ZERO, (1, 2))), right_pieces, ("+", (1,), (((2,), ">=", 0),)), (1,))

    def test_from_a_time_on(self):
        self.gives((((-4, 1), None, ZERO, ZERO),), right_pieces, ("+", (0,), (((1,), "<=", 4),)), (1,))
        self.gives(((None, (4, 1), ZERO, ZERO),), right_pieces, ("+", (0,), (((1,), "<=", 4),)), (-1,))
        self.gives((((-3, 1), None, ZERO, ZERO),), cost_pieces, ("+", (3,), ()), (1,))
        self.gives((((-3, 1), (5, 1), ZERO, ZERO),), cost_pieces, ("++", (3, 5), ()), (1, -1))


class WorthTest(Case):
    def test_by_its_definition(self):
        nothing = 0
        for task, _, _ in all_tasks():
            now = least(task[0], task[2], task[1])
            for index in range(len(task[2])):
                step = one_at(len(task[2]), index)
                before, behind = (self.slope(task, step, now, time) for time in (-NEAR, NEAR))
                nothing += (before is None) != (behind is None)
                self.gives((pair(before), pair(behind)), worth_of_row, task, index)
        self.assertGreater(nothing, 20)

    def slope(self, task, step, now, time):
        then = least_later(task, step, time)
        return None if isinstance(now, str) or isinstance(then, str) else (then - now) / time

    def test_some(self):
        self.gives((None, ZERO), worth_of_row, ("+", (1,), (((1,), "<=", 0),)), 0)
        self.gives((None, (-1, 1)), worth_of_row, ("+", (-1,), (((1,), "<=", 0),)), 0)
        self.gives(((1, 1), None), worth_of_row, ("*", (1,), (((1,), ">=", 2), ((1,), "<=", 2))), 0)
        self.gives((None, ZERO), worth_of_row, ("*", (1,), (((1,), ">=", 2), ((1,), "<=", 2))), 1)
        self.gives((None, None), worth_of_row, ("*", (1,), (((1,), "=", 2), ((2,), "=", 4))), 1)
        self.gives((ZERO, (1, 2)), worth_of_row, ("+", (1,), (((2,), ">=", 0),)), 0)
        self.gives((None, None), worth_of_row, EMPTY, 0)
        self.gives((None, None), worth_of_row, ("+", (-1,), (((0,), "=", 0),)), 0)
        # Beyond now there is a least cost, but none is there now.
        self.gives((None, None), worth_of_row, ("+", (1,), (((1,), "<=", -1),)), 0)


class SameUntilTest(Case):
    def test_by_its_definition(self):
        meeting = 0
        for task, _, _ in all_tasks():
            for column in range(len(task[0])):
                if ending(task) != "best":
                    self.gives(None, same_until, task, column)
                    continue
                here = [piece[:2] for piece in cost_pieces(task, one_at(len(task[0]), column)) if self.is_now(*piece[:2])]
                self.assertIn(len(here), (1, 2))
                meeting += len(here) == 2
                self.gives((here[0][0], here[-1][1]), same_until, task, column)
        self.assertGreater(meeting, 20)

    def is_now(self, low, high):
        return (low is None or low[0] <= 0) and (high is None or high[0] >= 0)

    def test_some(self):
        self.gives((ZERO, ZERO), same_until, BARE, 0)
        self.gives((ZERO, None), same_until, ("+", (0,), ()), 0)
        self.gives((None, None), same_until, ("*", (1,), (((1,), "=", 5),)), 0)
        self.gives(((-1, 1), None), same_until, ("++", (1, 1), (((1, 1), ">=", 2),)), 0)
        self.gives(((-1, 1), None), same_until, ("++", (2, 1), (((1, 1), ">=", 2),)), 0)
        self.gives(((-1, 1), None), same_until, ("+", (1,), (((1,), ">=", 2),)), 0)
        self.gives(None, same_until, FALLING, 0)
        self.gives(None, same_until, EMPTY, 1)
