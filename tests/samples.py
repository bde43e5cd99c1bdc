"""Values, tasks and assertions that the tests share."""

import copy
import unittest
from fractions import Fraction

FOOD = ("++", (2, 3), (((1, 2), ">=", 8), ((3, 1), ">=", 9), ((1, 0), "<=", 6)))
MIXED = ("+*", (3, -2), (((1, 2), ">=", 4), ((0, -1), "=", 1), ((-1, 0), "<=", 0)))
BARE = ("*", (0,), ())
LIMITS = ("*", (-1000,), (((1000,), "<=", -1000), ((-1000,), "=", 1000)))
FULL = ("+*", (1, 1), tuple(((number, 1), (">=", "<=", "=")[number % 3], 1) for number in range(8)))
BROAD = ("+*+*+*", (1, -2, 3, -4, 5, -6), (((1, 0, -1, 0, 1, 0), "=", 0), ((0, 1, 2, 3, 4, 5), "<=", 7)))
TASKS = (FOOD, MIXED, BARE, LIMITS, FULL, BROAD)

# Values of each kind that may be passed; none of them is a ratio, a row, a task, or ratios for all columns.
STRANGERS = (
    0, 1, -1, 8, 1001, "", "a", "+-", "1/2", True, False, None,
    (), (0,), (1,), (1, 2, 3), (True,), ("", None), ((), ()), ((1, 1), (1, 1), (1, 1), (1, 1), (1, 1), (1, 1), (1, 1)),
    [], [0], [1, 2], [(1, 1)], [[], {}], {}, {0: 1}, {"a": [1, 2]}, {(1, 2): None},
)

# Pairs that are nearly ratios.
NO_RATIOS = STRANGERS + (
    (2, 4), (0, 2), (-3, 9), (0, 0), (1, 0), (1, -2), (-1, -2), (0, -1), (5, 5), (1, 1, 1),
    (True, 1), (False, 1), (1, True), (True, True), (1, False), (True, 2), (False, True),
    ("1", 2), (1, "2"), (None, 1), (1, None), ((1, 1), 1), (1, (1, 1)), ([1], 2), (1, {}), [1, 1], {1: 1},
    (10 ** 400, 10 ** 399),
)


def shape(value):
    """The value with the kinds of all its parts, so that True is not 1 and a list is no tuple."""
    if isinstance(value, (tuple, list)):
        return (type(value), [shape(item) for item in value])
    if isinstance(value, dict):
        return (dict, [(shape(key), shape(item)) for key, item in value.items()])
    return (type(value), value)


def put(value, place, item):
    """The nested tuple with another item at a place, told as a tuple of indexes."""
    if not place:
        return item
    at, rest = place[0], place[1:]
    return value[:at] + (put(value[at], rest, item),) + value[at + 1:]


def text(value):
    """The value as a short text; Python refuses to write integers of very many digits."""
    try:
        return repr(value)[:500]
    except ValueError:
        return "a very large number"


def told(function, args):
    """A call as a short text."""
    return f"{function.__name__}{text(args)}"


def ratio(fraction):
    return (fraction.numerator, fraction.denominator)


def total(numbers, plan):
    """The sum of ratios by numbers, reckoned apart from the program."""
    return sum((number * Fraction(*item) for number, item in zip(numbers, plan)), Fraction(0))


class Case(unittest.TestCase):
    """Assertions on calls, each of which also looks whether the arguments are left as they were."""

    def called(self, function, args):
        before = copy.deepcopy(args)
        try:
            return function(*args)
        finally:
            self.assertTrue(shape(args) == shape(before), f"{told(function, args)} changed an argument")

    def gives(self, expected, function, *args):
        for _ in range(2):
            answer = self.called(function, args)
            if shape(answer) != shape(expected):
                self.fail(f"{told(function, args)}: answer {text(answer)}, expected {text(expected)}")

    def fails(self, error, fields, function, *args):
        call = told(function, args)
        with self.assertRaises(error, msg=call) as held:
            self.called(function, args)
        self.assertIs(type(held.exception), error, call)
        self.assertEqual(shape(vars(held.exception)), shape(fields), call)
