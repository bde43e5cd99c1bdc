"""Ratios: promises 1 and 2."""

from fractions import Fraction
from math import gcd

from costpapers.errors import BadNumber
from costpapers.ratios import compare, over, plus, times
from tests.samples import NO_RATIOS, Case, ratio

SMALL = [(top, low) for low in range(1, 7) for top in range(-7, 8) if gcd(top, low) == 1]
LARGE = [(10 ** 5000 + 1, 10 ** 5000), (-(3 ** 9000), 2 ** 9000), (7 ** 4000, 1), (-1, 10 ** 6000), (2 ** 9000, 3 ** 9000)]
EDGES = [(0, 1), (1, 1), (-1, 1), (1000, 1), (-1000, 1), (1, 1000), (1001, 1000)]


def pairs(ratios):
    return [(one, other) for one in ratios for other in ratios]


class RatiosTest(Case):
    def test_examples(self):
        self.gives((5, 6), plus, (1, 2), (1, 3))
        self.gives((1, 2), times, (2, 3), (3, 4))
        self.gives((-3, 2), over, (1, 2), (-1, 3))
        self.gives(-1, compare, (1, 2), (2, 3))
        self.fails(BadNumber, {}, over, (1, 1), (0, 1))

    def test_zero(self):
        self.gives((0, 1), plus, (1, 2), (-1, 2))
        self.gives((0, 1), times, (0, 1), (-5, 7))
        self.gives((0, 1), over, (0, 1), (-5, 7))
        self.gives(0, compare, (0, 1), (0, 1))

    def test_common_divisors_are_taken_out(self):
        self.gives((1, 2), plus, (1, 6), (1, 3))
        self.gives((-1, 1), times, (-2, 3), (3, 2))
        self.gives((-4, 1), over, (2, 3), (-1, 6))

    def test_against_fractions(self):
        for one, other in pairs(SMALL + EDGES):
            self.agrees(one, other)

    def test_very_large(self):
        for one, other in pairs(LARGE + [(0, 1), (-1, 3)]):
            self.agrees(one, other)

    def agrees(self, one, other):
        left, right = Fraction(*one), Fraction(*other)
        self.gives(ratio(left + right), plus, one, other)
        self.gives(ratio(left * right), times, one, other)
        self.gives((left > right) - (left < right), compare, one, other)
        if right == 0:
            self.fails(BadNumber, {}, over, one, other)
        else:
            self.gives(ratio(left / right), over, one, other)

    def test_wrong_values(self):
        for function in (plus, times, over, compare):
            for wrong in NO_RATIOS:
                self.fails(BadNumber, {}, function, wrong, (1, 2))
                self.fails(BadNumber, {}, function, (1, 2), wrong)
                self.fails(BadNumber, {}, function, wrong, wrong)

    def test_wrong_value_and_zero(self):
        for wrong in NO_RATIOS:
            self.fails(BadNumber, {}, over, wrong, (0, 1))
