"""Games: promises 1, 19 and 20."""

import random
from fractions import Fraction
from itertools import product

from costpapers.errors import BadTable
from costpapers.games import (
    best_mixes, first_column_mix, first_mix, game_task, good_answers, is_even, is_one_mix, saddles, safe_row,
    shows_value, surely, two_by_two, used_rows, value,
)
from costpapers.solve import best_cost
from costpapers.tasks import size
from tests import reckon
from tests.reckon import dot, fractions, pair
from tests.samples import Case

TABLE = ((3, -1), (-2, 1))
PAPER = ((0, -1, 1), (1, 0, -1), (-1, 1, 0))
SAME = ((4, 4), (4, 4))
LARGEST = ((1000, -1000, 999, 0, 1), (-1000, 1000, 0, -999, 2), (7, 7, 7, 7, 7), (0, 0, 0, 0, 0), (1, 2, 3, 4, 1000))
KNOWN = (
    (((5,),), (5, 1)), (((3, -2, 4),), (-2, 1)), (((3,), (-2,), (4,)), (4, 1)), (TABLE, (1, 7)), (PAPER, (0, 1)),
    (SAME, (4, 1)), (((1, 2), (0, 3)), (1, 1)), (((0, 2), (3, 0)), (6, 5)), (((0, 1), (-1, 0)), (0, 1)),
    (((-1000,) * 5,) * 5, (-1000, 1)), (((1, 0), (0, 1), (1, 0)), (1, 2)),
)


def some_tables():
    """Tables of one to five rows and columns."""
    yield from (table for table, _ in KNOWN)
    yield LARGEST
    chance = random.Random(81)
    for reach, many in ((1, 80), (3, 120), (1000, 40)):
        for _ in range(many):
            width = chance.randint(1, 5)
            yield tuple(tuple(chance.randint(-reach, reach) for _ in range(width)) for _ in range(chance.randint(1, 5)))


def columns_of(table):
    return list(zip(*table))


def sure(table, mix):
    return min(dot(column, mix) for column in columns_of(table))


def most(table, mix):
    """The greatest sum of a mix of columns by the numbers of a row."""
    return max(dot(row, mix) for row in table)


def is_mix(mix, many):
    return type(mix) is tuple and len(mix) == many and min(fractions(mix)) >= 0 and sum(fractions(mix)) == 1


def best_rows(table):
    """The kinds and rows whose plans are the best mixes of rows."""
    worth = reckon.least(*task_of(table))
    rows = [((1,) * len(table), "=", 1)]
    for column in columns_of(table):
        rows.append((tuple(item * worth.denominator for item in column), ">=", -worth.numerator))
    return "+" * len(table), rows


def task_of(table):
    """The kinds, rows and costs of a game, written down once more."""
    rows = tuple(((*column, -1), ">=", 0) for column in columns_of(table))
    many = len(table)
    return "+" * many + "*", rows + (((1,) * many + (0,), "=", 1),), (0,) * many + (-1,)


def some_mix(chance, many):
    parts = [chance.choice((0, 1, 1, 2)) for _ in range(many)]
    parts[chance.randrange(many)] += 1
    return tuple(pair(Fraction(part, sum(parts))) for part in parts)


class ExamplesTest(Case):
    def test_examples(self):
        first, other = ((3, 7), (4, 7)), ((2, 7), (5, 7))
        self.gives((1, 7), value, TABLE)
        self.gives(first, first_mix, TABLE)
        self.gives(other, first_column_mix, TABLE)
        self.gives((0, 1), surely, TABLE, ((1, 2), (1, 2)))
        self.gives(True, shows_value, TABLE, first, other)
        self.gives([first], best_mixes, TABLE)
        self.gives((0, 1), used_rows, TABLE)
        self.gives((0, 1), good_answers, TABLE)
        self.gives(((0, 0),), saddles, ((1, 2), (0, 3)))
        self.gives(-1, safe_row, TABLE)
        self.gives((1, 7), two_by_two, TABLE)
        self.gives(True, is_one_mix, TABLE)
        self.gives(True, is_even, ((0, 1), (-1, 0)))
        rows = (((3, -2, -1), ">=", 0), ((-1, 1, -1), ">=", 0), ((1, 1, 0), "=", 1))
        self.gives(("++*", (0, 0, -1), rows), game_task, TABLE)


class ValueTest(Case):
    def test_known_tables(self):
        for table, worth in KNOWN:
            self.gives(worth, value, table)

    def test_shown_by_sums(self):
        for table in some_tables():
            mix, other = first_mix(table), first_column_mix(table)
            self.assertTrue(is_mix(mix, len(table)) and is_mix(other, len(table[0])), table)
            worth = sure(table, fractions(mix))
            # No mix of rows has more than what some mix of columns allows.
            self.assertEqual(worth, most(table, fractions(other)), table)
            self.gives(pair(worth), value, table)
            self.gives(pair(worth), surely, table, mix)
            self.gives(True, shows_value, table, mix, other)

    def test_surely_and_shows_value(self):
        chance, found = random.Random(82), []
        for table in some_tables():
            mixes = [some_mix(chance, len(table)), first_mix(table)]
            others = [some_mix(chance, len(table[0])), first_column_mix(table)]
            for mix, other in product(mixes, others):
                self.gives(pair(sure(table, fractions(mix))), surely, table, mix)
                found.append(sure(table, fractions(mix)) == most(table, fractions(other)))
                self.gives(found[-1], shows_value, table, mix, other)
        self.assertGreater(found.count(True), 100)
        self.assertGreater(found.count(False), 100)

    def test_game_task(self):
        for table in some_tables():
            kinds, rows, costs = task_of(table)
            self.gives((kinds, costs, rows), game_task, table)
            self.gives((len(table) + 1, len(table[0]) + 1), size, game_task(table))
            top, low = value(table)
            self.gives((-top, low), best_cost, game_task(table))

    def test_two_by_two(self):
        for table in some_tables():
            if len(table) == len(table[0]) == 2:
                self.gives(value(table), two_by_two, table)
                (a, b), (c, d) = table
                if not saddles(table):
                    self.gives(pair(Fraction(a * d - b * c, a + d - b - c)), two_by_two, table)
            else:
                self.fails(BadTable, {}, two_by_two, table)
        for table in product((-1, 0, 2), repeat=4):
            self.gives(value((table[:2], table[2:])), two_by_two, (table[:2], table[2:]))


class BestMixesTest(Case):
    def test_first_ones(self):
        for table in some_tables():
            self.gives(reckon.first(*best_rows(table)), first_mix, table)
            turned = tuple(tuple(-item for item in column) for column in columns_of(table))
            self.gives(reckon.first(*best_rows(turned)), first_column_mix, table)

    def test_best_mixes(self):
        longest = 0
        for table in [table for table in some_tables() if len(table) + len(table[0]) < 9][:150]:
            kinds, rows = best_rows(table)
            told = reckon.corner_points(kinds, rows)
            longest = max(longest, len(told))
            self.gives([tuple(pair(item) for item in mix) for mix in told], best_mixes, table)
        self.assertGreater(longest, 3)

    def test_by_their_definitions(self):
        single = 0
        for table in some_tables():
            kinds, rows = best_rows(table)
            spans = reckon.ranges(kinds, rows)
            mixes = [fractions(mix) for mix in best_mixes(table)]
            self.assertEqual(sorted(mixes), mixes, table)
            for mix in mixes:
                self.assertTrue(reckon.holds_plan(kinds, rows, mix), table)
                self.assertFalse(self.is_mean(mix, mixes), (table, mix))
            for at, (low, high) in enumerate(spans):
                self.assertEqual((min(mix[at] for mix in mixes), max(mix[at] for mix in mixes)), (low, high), table)
            one = all(low == high for low, high in spans)
            single += one
            self.gives(one, is_one_mix, table)
            self.gives(tuple(at for at, (_, high) in enumerate(spans) if high > 0), used_rows, table)
            worth = Fraction(*value(table))
            told = [at for at, column in enumerate(columns_of(table)) if reckon.span(kinds, rows, column)[1] == worth]
            self.gives(tuple(told), good_answers, table)
        self.assertGreater(single, 50)

    def is_mean(self, mix, mixes):
        """Tell whether a mix is a sum of others by weights with the sum 1."""
        others = [other for other in mixes if other != mix]
        rows = [(tuple([1] * len(others)), "=", 1)]
        for at, item in enumerate(mix):
            sides = [other[at] for other in others]
            shared = 1
            for number in (*sides, item):
                shared *= number.denominator
            rows.append((tuple(int(side * shared) for side in sides), "=", int(item * shared)))
        return bool(others) and reckon.least("+" * len(others), rows, (0,) * len(others)) == 0

    def test_some(self):
        zero, one, half = (0, 1), (1, 1), (1, 2)
        self.gives([(zero, one), (one, zero)], best_mixes, SAME)
        self.gives((zero, one), first_mix, SAME)
        self.gives((zero, one), first_column_mix, SAME)
        self.gives(False, is_one_mix, SAME)
        self.gives((0, 1), used_rows, SAME)
        self.gives((0, 1), good_answers, SAME)
        self.gives([(zero, half, half), (half, half, zero)], best_mixes, ((1, 0), (0, 1), (1, 0)))
        self.gives([((1, 3),) * 3], best_mixes, PAPER)
        self.gives([(one,)], best_mixes, ((3, -2, 4),))
        self.gives((zero, one, zero), first_column_mix, ((3, -2, 4),))
        self.gives((1,), good_answers, ((3, -2, 4),))
        self.gives([(zero, zero, one)], best_mixes, ((3,), (-2,), (4,)))
        self.gives((2,), used_rows, ((3,), (-2,), (4,)))
        # By the last column each best mix has more than the value.
        self.gives((0, 1), good_answers, ((1, -1, 5), (-1, 1, 5)))


class TablesTest(Case):
    def test_by_their_definitions(self):
        found = 0
        for table in some_tables():
            told = tuple(
                (index, at) for index, row in enumerate(table) for at, number in enumerate(row)
                if all(number <= other for other in row) and all(number >= line[at] for line in table)
            )
            found += len(told) > 1
            self.gives(told, saddles, table)
            self.gives(max(min(row) for row in table), safe_row, table)
            self.gives(columns_of(table) == [tuple(-item for item in row) for row in table], is_even, table)
            for index, at in told:
                self.gives((table[index][at], 1), value, table)
        self.assertGreater(found, 10)

    def test_some(self):
        self.gives(((0, 0), (0, 1), (1, 0), (1, 1)), saddles, SAME)
        self.gives((), saddles, PAPER)
        self.gives(((0, 1),), saddles, ((3, -2, 4),))
        self.gives(((0, 1), (0, 3)), saddles, ((3, -2, 4, -2),))
        self.gives(((2, 0),), saddles, ((3,), (-2,), (4,)))
        for table, told in (
            (PAPER, True), (((0,),), True), (((1,),), False), (((0, 1), (1, 0)), False), (((0, 1),), False),
            (((0, 1, 2), (-1, 0, 0)), False), (((0, 1), (-1, 0), (0, 0)), False), (((1, 1), (-1, 0)), False),
        ):
            self.gives(told, is_even, table)
