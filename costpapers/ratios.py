"""Sums, products, quotients and the order of ratios."""

from math import gcd, lcm

from costpapers.checks import check_ratio
from costpapers.errors import BadNumber


def reduced(top, low):
    """The ratio of two integers, the second one not 0."""
    shared = gcd(top, low)
    if low < 0:
        shared = -shared
    return (top // shared, low // shared)


def shared_low(ratios):
    """The least number above 0 that the low numbers of all ratios divide."""
    shared = 1
    for _, low in ratios:
        shared = lcm(shared, low)
    return shared


def tops_over(ratios, low):
    """What the top numbers of ratios are over one low number, which their own ones divide."""
    return [top * (low // own) for top, own in ratios]


def ascending(points):
    """The tuples of ratios, ascending."""
    low = shared_low([ratio for point in points for ratio in point])
    return sorted(points, key=lambda point: tops_over(point, low))


def minus(ratio):
    """The ratio negated."""
    return (-ratio[0], ratio[1])


def plus(one, other):
    """The sum of two ratios."""
    check_ratio(one)
    check_ratio(other)
    return reduced(one[0] * other[1] + other[0] * one[1], one[1] * other[1])


def times(one, other):
    """The product of two ratios."""
    check_ratio(one)
    check_ratio(other)
    return reduced(one[0] * other[0], one[1] * other[1])


def over(one, other):
    """The quotient of two ratios."""
    check_ratio(one)
    check_ratio(other)
    if other[0] == 0:
        raise BadNumber()
    return reduced(one[0] * other[1], one[1] * other[0])


def compare(one, other):
    """-1, 0 or 1 as the first ratio is less than the second one, equal to it or greater."""
    check_ratio(one)
    check_ratio(other)
    # Both low numbers are above 0, so the products are in the order of the ratios.
    left = one[0] * other[1]
    right = other[0] * one[1]
    if left < right:
        return -1
    if left > right:
        return 1
    return 0
