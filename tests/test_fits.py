"""Fits, middles and parted lots: promises 1, 24 and 25."""

import random
from fractions import Fraction
from itertools import combinations, product

from costpapers.errors import BadLists
from costpapers.fits import (
    are_parted, first_line, is_in_hull, is_one_line, least_sum, least_worst, middles, outer_marks, some_common,
    some_parting,
)
from tests.reckon import fractions, pair
from tests.samples import Case
from tests.wrong import no_mark, no_marks, no_numbers

MARKS = ((0, 0), (1, 2), (2, 0))
ONE = ((3, -4),)
ABOVE = ((2, 5), (2, -1), (2, 1))
STEPS = ((0, 0), (0, 2), (1, 0), (1, 2))
WIDE = ((0, 1), (0, -1), (3, 0), (1, 0))
LARGEST = ((1000, 1000), (-1000, 1000), (1000, -1000), (999, 998), (0, 1), (-999, -1000))
LOTS = (MARKS, ONE, ABOVE, STEPS, WIDE, LARGEST, ((0, 0),) * 6, ((0, 0), (1, 1), (2, 2), (3, 3)), ((0, 0), (5, 1)))


def some_lots():
    """Tuples of one to six marks."""
    yield from LOTS
    chance = random.Random(111)
    for reach, many in ((1, 60), (2, 80), (4, 60), (1000, 40)):
        for _ in range(many):
            yield tuple((chance.randint(-reach, reach), chance.randint(-reach, reach)) for _ in range(chance.randint(1, 6)))


def some_pairs():
    """Pairs of lots."""
    yield ((0, 0),), ((1, 1),)
    yield ((0, 0),), ((0, 0),)
    yield ((0, 0), (2, 2)), ((1, 1), (3, 0))
    yield ((0, 0), (2, 0)), ((2, 0), (3, 0))
    yield ((0, 0), (2, 2)), ((0, 2), (2, 0))
    yield ((0, 0), (0, 3), (3, 0)), ((1, 1),)
    yield ((0, 0), (0, 3), (3, 0)), ((2, 2),)
    yield ((0, 0), (1, 0)), ((2, 0), (3, 0))
    yield LARGEST[:3], LARGEST[3:]
    chance = random.Random(112)
    for reach, many in ((1, 60), (2, 100), (5, 80), (1000, 40)):
        for _ in range(many):
            yield tuple(tuple((chance.randint(-reach, reach), chance.randint(-reach, reach))
                              for _ in range(chance.randint(1, 6))) for _ in range(2))


def slopes(marks):
    """0 and the slopes of all lines through two marks, at which the least errors bend."""
    told = {Fraction(0)}
    for (x, y), (other_x, other_y) in combinations(marks, 2):
        if x != other_x:
            told.add(Fraction(other_y - y, other_x - x))
    return sorted(told)


def worst_at(marks, slope):
    """The least greatest error of the lines of a slope, and the base that has it."""
    left = [y - slope * x for x, y in marks]
    return (max(left) - min(left)) / 2, (max(left) + min(left)) / 2


def errors(marks, slope, base):
    return [abs(y - slope * x - base) for x, y in marks]


def side(mark, other, third):
    """Above 0 if three marks turn left, below 0 if they turn right."""
    (a, b), (c, d), (e, f) = mark, other, third
    return (c - a) * (f - b) - (d - b) * (e - a)


def is_between(mark, other, third):
    return side(mark, other, third) == 0 and all(min(one, two) <= at <= max(one, two)
                                                 for one, two, at in zip(mark, other, third))


def is_mean(marks, mark):
    """Tell whether a mark is a mean of marks: of one, or of two, or of three of them, which always do."""
    for one, two, three in product(marks, repeat=3):
        if mark == one or is_between(one, two, mark):
            return True
        turns = [side(one, two, mark), side(two, three, mark), side(three, one, mark)]
        if side(one, two, three) and (min(turns) >= 0 or max(turns) <= 0):
            return True
    return False


def mean(marks, weights):
    return tuple(sum(mark[at] * weight for mark, weight in zip(marks, weights)) for at in range(2))


class ExamplesTest(Case):
    def test_examples(self):
        self.gives((1, 1), least_worst, MARKS)
        self.gives(((0, 1), (1, 1)), first_line, MARKS)
        self.gives(True, is_one_line, MARKS)
        self.gives((2, 1), least_sum, MARKS)
        self.gives(((3, 1), (5, 1)), middles, (5, 1, 9, 3))
        self.gives(True, are_parted, ((0, 0),), ((1, 1),))
        self.gives(True, is_in_hull, ((0, 0), (2, 2)), (1, 1))
        self.gives(((0, 0), (2, 0)), outer_marks, ((0, 0), (2, 0), (1, 0)))


class LinesTest(Case):
    def test_least_greatest_error(self):
        several, steep = 0, 0
        for marks in some_lots():
            worst = {slope: worst_at(marks, slope)[0] for slope in slopes(marks)}
            least = min(worst.values())
            best = [slope for slope in worst if worst[slope] == least]
            self.gives(pair(least), least_worst, marks)
            if len({x for x, _ in marks}) == 1:
                steep += 1
                self.gives(None, first_line, marks)
                self.gives(False, is_one_line, marks)
                continue
            several += len(best) > 1
            # The error of a line between two best ones is no greater, so the first bend is where the best ones begin.
            self.gives((pair(best[0]), pair(worst_at(marks, best[0])[1])), first_line, marks)
            self.gives(len(best) == 1, is_one_line, marks)
        self.assertGreater(several, 10)
        self.assertGreater(steep, 20)

    def test_no_line_has_less(self):
        parts = sorted({Fraction(top, low) for low in (1, 2, 3) for top in range(-9, 10)})
        for marks in list(some_lots())[:60]:
            worst, least = Fraction(*least_worst(marks)), Fraction(*least_sum(marks))
            told = first_line(marks)
            for slope, base in product(parts, repeat=2):
                found = errors(marks, slope, base)
                self.assertGreaterEqual(max(found), worst)
                self.assertGreaterEqual(sum(found), least)
                if told is not None and max(found) == worst:
                    self.assertGreaterEqual((slope, base), fractions(told))
                    self.assertTrue((slope, base) == fractions(told) or not is_one_line(marks))

    def test_first_lines_have_it(self):
        for marks in some_lots():
            line = first_line(marks)
            if line is not None:
                self.assertEqual(max(errors(marks, *fractions(line))), Fraction(*least_worst(marks)))

    def test_least_sum(self):
        for marks in some_lots():
            told = min(sum(errors(marks, slope, y - slope * x)) for slope in slopes(marks) for x, y in marks)
            self.gives(pair(told), least_sum, marks)

    def test_some(self):
        self.gives((0, 1), least_worst, ONE)
        self.gives(None, first_line, ONE)
        self.gives(False, is_one_line, ONE)
        self.gives((0, 1), least_sum, ONE)
        self.gives((3, 1), least_worst, ABOVE)
        self.gives(None, first_line, ABOVE)
        self.gives(False, is_one_line, ABOVE)
        self.gives((6, 1), least_sum, ABOVE)
        self.gives(((1, 5), (0, 1)), first_line, ((0, 0), (5, 1)))
        self.gives(True, is_one_line, ((0, 0), (5, 1)))
        self.gives((1, 1), least_worst, STEPS)
        self.gives(((0, 1), (1, 1)), first_line, STEPS)
        # The line may be turned about the two marks with the greatest error, which are one above the other.
        self.gives((1, 1), least_worst, WIDE)
        self.gives(((-1, 3), (0, 1)), first_line, WIDE)
        self.gives(False, is_one_line, WIDE)
        self.gives((2, 1), least_sum, WIDE)
        self.gives((0, 1), least_worst, ((7, 7),) * 6)


class MiddlesTest(Case):
    def some_numbers(self):
        yield from ((5, 1, 9, 3), (7,), (-2, -2), (1000, -1000), (3, 3, 3, 3, 3, 3), (2, 1), (5, 5, 1, 1), (1, 2, 3))
        chance = random.Random(113)
        for reach in (1, 5, 1000):
            for _ in range(60):
                yield tuple(chance.randint(-reach, reach) for _ in range(chance.randint(1, 6)))

    def test_by_all_sums(self):
        even, odd = 0, 0
        for numbers in self.some_numbers():
            def far(place):
                return sum(abs(place - number) for number in numbers)
            # The sum bends at the numbers alone, so that it is least at some of them.
            least = min(far(number) for number in numbers)
            told = sorted({number for number in numbers if far(number) == least})
            even += len(told) == 2
            odd += len(numbers) % 2
            self.gives(((told[0], 1), (told[-1], 1)), middles, numbers)
            for part in range(-20, 21):
                place = Fraction(part, 3)
                self.assertEqual(far(place) == least, told[0] <= place <= told[-1])
                self.assertGreaterEqual(far(place), least)
        self.assertGreater(even, 30)
        self.assertGreater(odd, 30)

    def test_some(self):
        self.gives(((7, 1), (7, 1)), middles, (7,))
        self.gives(((-2, 1), (-2, 1)), middles, (-2, -2))
        self.gives(((2, 1), (2, 1)), middles, (3, 1, 2))
        self.gives(((-1000, 1), (1000, 1)), middles, (1000, -1000))


class LotsTest(Case):
    def test_shown_by_sums(self):
        parted, mixed = 0, 0
        for marks, others in some_pairs():
            told, common = some_parting(marks, others), some_common(marks, others)
            # What shows the one rules out the other.
            self.assertNotEqual(told is None, common is None, (marks, others))
            self.gives(told is not None, are_parted, marks, others)
            self.gives(told is not None, are_parted, others, marks)
            if told is not None:
                parted += 1
                self.shows_parted(marks, others, told)
            else:
                mixed += 1
                self.shows_common(marks, others, common)
        self.assertGreater(parted, 50)
        self.assertGreater(mixed, 50)

    def shows_parted(self, marks, others, told):
        self.assertEqual((type(told), len(told)), (tuple, 3))
        self.are_ratios(told)
        a, b, c = fractions(told)
        for x, y in marks:
            self.assertGreaterEqual(a * x + b * y, c + 1)
        for x, y in others:
            self.assertLessEqual(a * x + b * y, c - 1)

    def shows_common(self, marks, others, common):
        self.assertEqual((type(common), len(common)), (tuple, 2))
        for lot, weights in zip((marks, others), common):
            self.assertEqual((type(weights), len(weights)), (tuple, len(lot)))
            self.are_ratios(weights)
            self.assertGreaterEqual(min(fractions(weights)), 0)
            self.assertEqual(sum(fractions(weights)), 1)
        self.assertEqual(mean(marks, fractions(common[0])), mean(others, fractions(common[1])))

    def are_ratios(self, told):
        for item in told:
            self.assertEqual(item, pair(Fraction(*item)))
            self.assertEqual([type(part) for part in item], [int, int])

    def test_some(self):
        self.gives(False, are_parted, ((0, 0),), ((0, 0),))
        self.gives((((1, 1),), ((1, 1),)), some_common, ((0, 0),), ((0, 0),))
        self.gives(None, some_parting, ((0, 0),), ((0, 0),))
        self.gives(None, some_common, ((0, 0),), ((1, 1),))
        # Lots that touch at one mark, along a side, and where they cross.
        self.gives(False, are_parted, ((0, 0), (2, 0)), ((2, 0), (3, 0)))
        self.gives(False, are_parted, ((0, 0), (0, 3), (3, 0)), ((1, 2), (5, 5)))
        self.gives(False, are_parted, ((0, 0), (2, 2)), ((0, 2), (2, 0)))
        self.gives(True, are_parted, ((0, 0), (1, 0)), ((2, 0), (3, 0)))
        self.gives(True, are_parted, ((1000, 1000),), ((999, 1000), (1000, 999)))

    def test_wrong_ones(self):
        for value in no_marks():
            for function in (are_parted, some_parting, some_common):
                self.fails(BadLists, {}, function, value, MARKS)
                self.fails(BadLists, {}, function, MARKS, value)


class HullTest(Case):
    def test_by_marks(self):
        found = []
        for marks in some_lots():
            reach = 3 if marks != LARGEST else 1
            for mark in [*product(range(-reach, reach + 1), repeat=2), *marks, (1000, -1000)]:
                found.append(is_mean(marks, mark))
                if found[-1] or len(found) % 3 == 0:
                    self.gives(found[-1], is_in_hull, marks, mark)
        self.assertGreater(found.count(True), 500)

    def test_by_weights(self):
        # All weights in fourths.
        for marks in (MARKS, STEPS, WIDE, ((0, 0), (4, 4)), ((4, 0), (0, 4), (-4, -4))):
            for weights in product(range(5), repeat=len(marks)):
                told = mean(marks, [Fraction(weight, 4) for weight in weights])
                if sum(weights) == 4 and told[0].denominator == told[1].denominator == 1:
                    self.gives(True, is_in_hull, marks, (int(told[0]), int(told[1])))

    def test_outer_marks(self):
        few, twice = 0, 0
        for marks in some_lots():
            unlike = sorted(set(marks))
            told = tuple(mark for mark in unlike if not is_mean([other for other in unlike if other != mark], mark))
            few += len(told) < len(unlike)
            twice += len(unlike) < len(marks)
            self.gives(told, outer_marks, marks)
            self.gives(told, outer_marks, marks[::-1])
            for mark in unlike:
                self.gives(True, is_in_hull, told, mark)
        self.assertGreater(few, 50)
        self.assertGreater(twice, 30)

    def test_some(self):
        self.gives(((7, 7),), outer_marks, ((7, 7),) * 6)
        self.gives(((3, -4),), outer_marks, ONE)
        self.gives(((2, -1), (2, 5)), outer_marks, ABOVE)
        self.gives(((0, 0), (0, 2), (1, 0), (1, 2)), outer_marks, STEPS + STEPS[:2])
        self.gives(True, is_in_hull, ONE, (3, -4))
        self.gives(False, is_in_hull, ONE, (3, -3))
        self.gives(False, is_in_hull, MARKS, (1, 3))
        self.gives(True, is_in_hull, MARKS, (1, 0))

    def test_wrong_ones(self):
        for value in no_mark():
            self.fails(BadLists, {}, is_in_hull, MARKS, value)
        for value in no_numbers():
            self.fails(BadLists, {}, middles, value)
