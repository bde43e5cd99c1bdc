"""Tasks all determinants of whose rows are small: promise 26."""

import random
from fractions import Fraction
from itertools import combinations, product

from costpapers.wholes import is_plainly_whole, is_whole
from tests import reckon
from tests.samples import FOOD, TASKS, Case


def determinant(lines):
    """A determinant by elimination."""
    lines, found = [[Fraction(item) for item in line] for line in lines], Fraction(1)
    for at in range(len(lines)):
        pivot = next((index for index in range(at, len(lines)) if lines[index][at]), None)
        if pivot is None:
            return 0
        if pivot != at:
            lines[at], lines[pivot], found = lines[pivot], lines[at], -found
        found *= lines[at][at]
        for index in range(at + 1, len(lines)):
            part = lines[index][at] / lines[at][at]
            lines[index] = [item - part * other for item, other in zip(lines[index], lines[at])]
    return found


def with_lines(lines, many):
    """A task with the lines as the numbers of its rows, over so many columns."""
    return "*" * many, (0,) * many, tuple((tuple(line), "=", 1) for line in lines)


def all_small(lines, many):
    """Tell whether all determinants of as many of the lines as of their columns are -1, 0 or 1."""
    return all(
        determinant([[line[at] for at in columns] for line in chosen]) in (-1, 0, 1)
        for size in range(1, min(len(lines), many) + 1)
        for chosen in combinations(lines, size) for columns in combinations(range(many), size))


def all_even_out(lines, many):
    """Tell whether any of the lines can be told as two lots whose sums are nowhere more than 1 apart: just then all
    determinants of lines and columns are small."""
    return all(
        any(all(abs(sum(side * line[at] for side, line in zip(sides, chosen))) < 2 for at in range(many))
            for sides in product((-1, 1), repeat=size))
        for size in range(1, len(lines) + 1) for chosen in combinations(lines, size))


def ring(size, number):
    """Lines of which each has two ones side by side, the last one a number in place of the second one: the
    determinant of all is 2 or 0, all others are small."""
    lines = [[0] * size for _ in range(size)]
    for at in range(size):
        lines[at][at] = 1
        lines[at][(at + 1) % size] += 1 if at < size - 1 else number
    return lines


def spread(lines, chance, rows, columns):
    """The lines, some of them negated, with lines and columns of zeros between them."""
    down, right = sorted(chance.sample(range(rows), len(lines))), sorted(chance.sample(range(columns), len(lines[0])))
    told = [[0] * columns for _ in range(rows)]
    for line, row in zip(lines, down):
        side = chance.choice((-1, 1))
        for number, column in zip(line, right):
            told[row][column] = side * number
    return told


class PlainlyWholeTest(Case):
    def test_by_all_determinants(self):
        found = []
        tasks = [*TASKS, *reckon.some_tasks(127, 500, columns=(1, 4), rows=(0, 4), reach=1),
                 *reckon.some_tasks(128, 60, columns=(1, 6), rows=(1, 8), reach=1),
                 *reckon.some_tasks(130, 60, columns=(1, 3), rows=(0, 2), reach=2)]
        for task in tasks:
            lines, many = [row[0] for row in task[2]], len(task[0])
            found.append(all_small(lines, many))
            self.assertEqual(found[-1], all_even_out(lines, many))
            self.gives(found[-1], is_plainly_whole, task)
            if found[-1]:
                self.gives(True, is_whole, task)
        self.assertGreater(found.count(True), 50)
        self.assertGreater(found.count(False), 50)

    def test_of_some(self):
        for expected, lines in (
            (True, ((0,),)), (True, ((-1,), (0,), (1,))), (False, ((2,),)), (False, ((-1,), (0,), (-2,))),
            (False, ((7, 9),)), (False, ((0, 0, -2),)), (False, ((5, 3), (5, 3), (10, 6))),
            (False, ((1000,) * 6,) * 8), (True, ((1,) * 6,) * 8), (True, ((0,) * 6,) * 8),
            (False, ((2, 1), (1, 1))), (False, ((1, 1), (2, 1))),
            (False, ((1, 1), (-1, 1))), (False, ((-1, 1), (1, 1))),
            (True, ((1, 1), (-1, -1))), (True, ((1, 1), (0, 1))),
            (False, ((1, 0, 1), (1, 1, 0), (0, 1, 1))), (True, ((1, 0, -1), (1, 1, 0), (0, 1, 1))),
        ):
            self.gives(expected, is_plainly_whole, with_lines(lines, len(lines[0])))
        for many in range(1, 7):
            self.gives(True, is_plainly_whole, ("+" * many, (5,) * many, ()))
        self.gives(False, is_plainly_whole, FOOD)

    def test_fewer_rows_than_columns(self):
        # All numbers are small, the first and the last column alone have the determinant 2.
        lines = ((1, 0, 1), (-1, 0, 1))
        self.gives(False, is_plainly_whole, with_lines(lines, 3))
        task = ("+++", (0, 0, 0), tuple((line, "<=", 3) for line in lines))
        self.gives(False, is_plainly_whole, task)
        self.gives(True, is_plainly_whole, with_lines(((1, 1, 0), (0, 1, 1)), 3))

    def test_one_great_number(self):
        # The determinants of all rows are small, one number alone is not.
        task = ("+++", (-2, 1, 0), (((-1, 2, 0), "<=", 6), ((-2, -1, -2), ">=", -17), ((1, 1, 1), "<=", 4)))
        self.gives(False, is_plainly_whole, task)
        self.gives(False, is_whole, task)
        for rows in range(1, 9):
            for columns in range(1, 7):
                for number, expected in ((2, False), (-2, False), (1000, False), (1, True), (-1, True)):
                    lines = [[0] * columns for _ in range(rows)]
                    lines[rows * 2 // 3][columns // 2] = number
                    self.gives(expected, is_plainly_whole, with_lines(lines, columns))

    def test_one_great_determinant(self):
        # Of all determinants one alone is not small, of each size, wherever its rows and columns stand.
        chance = random.Random(131)
        for size in range(2, 7):
            for number in (1, -1):
                lines = ring(size, number)
                expected = determinant(lines) == 0
                self.assertEqual(expected, (number == 1) == (size % 2 == 0))
                for _ in range(6):
                    rows, columns = chance.randint(size, 8), chance.randint(size, 6)
                    told = spread(lines, chance, rows, columns)
                    self.gives(expected, is_plainly_whole, with_lines(told, columns))
                    at = chance.choice([row for row in range(rows) if any(told[row])])
                    self.gives(True, is_plainly_whole, with_lines(told[:at] + told[at + 1:], columns))

    def test_of_arcs_and_of_stretches(self):
        # Arcs from one place to another one, and ones that stand side by side, have small determinants only.
        chance = random.Random(132)
        for _ in range(20):
            rows, columns = chance.randint(1, 8), chance.randint(2, 6)
            arcs, stretches = [], []
            for _ in range(rows):
                start, end = sorted(chance.sample(range(columns + 1), 2))
                stretches.append([int(start <= at < end) for at in range(columns)])
                leaves, comes = chance.sample(range(columns), 2)
                arcs.append([(at == comes) - (at == leaves) for at in range(columns)])
            for lines in (arcs, stretches):
                self.gives(True, is_plainly_whole, with_lines(lines, columns))
                right = tuple((tuple(line), chance.choice((">=", "<=", "=")), chance.randint(-9, 9)) for line in lines)
                self.gives(True, is_plainly_whole, ("+" * columns, (1,) * columns, right))
                if columns < 5:
                    self.gives(True, is_whole, ("+" * columns, (1,) * columns, right))

    def test_numbers_alone_tell(self):
        # Kinds, costs, signs and right sides say nothing, nor does the order of rows and columns.
        chance = random.Random(133)
        for lines in (((1, 1, 0), (0, 1, 1), (1, 0, 1), (0, 0, 0)), ((1, 1, 0), (0, 1, 1), (-1, 0, 1), (0, 0, 0))):
            expected = all_small(lines, 3)
            for _ in range(20):
                down, right = chance.sample(range(4), 4), chance.sample(range(3), 3)
                kinds = "".join(chance.choice("+*") for _ in range(3))
                costs = tuple(chance.randint(-1000, 1000) for _ in range(3))
                rows = tuple((tuple(lines[row][column] for column in right), chance.choice((">=", "<=", "=")),
                              chance.randint(-1000, 1000)) for row in down)
                self.gives(expected, is_plainly_whole, (kinds, costs, rows))
