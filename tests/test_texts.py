"""Tasks, rows and plans as texts: promises 1 and 28."""

import random
import re
from itertools import product

from costpapers.errors import BadPlan, BadRow, BadTask, InvalidText, NotText
from costpapers.texts import read, read_row, write, write_plan, write_row
from tests import reckon
from tests.samples import BARE, BROAD, FOOD, FULL, LIMITS, MIXED, STRANGERS, TASKS, Case, put

ALL = (*TASKS, *reckon.some_tasks(141, 150, columns=(1, 6), rows=(0, 8), reach=2),
       *reckon.some_tasks(142, 150, columns=(1, 6), rows=(0, 8), reach=1000))
WRITTEN = (
    (FOOD, "ab: 2a+3b; a+2b>=8; 3a+b>=9; a<=6"),
    (MIXED, "ab*: 3a-2b; a+2b>=4; -b=1; -a<=0"),
    (BARE, "a*: 0"),
    (LIMITS, "a*: -1000a; 1000a<=-1000; -1000a=1000"),
    (BROAD, "ab*cd*ef*: a-2b+3c-4d+5e-6f; a-c+e=0; b+2c+3d+4e+5f<=7"),
    (("++++++", (0, 0, 0, 0, 0, 1), ()), "abcdef: f"),
    (("***", (0, -1, 0), (((0, 0, 0), "=", 0), ((0, 0, -10), ">=", -10))), "a*b*c*: -b; 0=0; -10c>=-10"),
    (("+", (100,), (((999,), "<=", 1000),) * 8), "a: 100a" + "; 999a<=1000" * 8),
)
# Wrong texts, and the place that is told.
WRONG = (
    ("", 0), (" ", 0), ("b: b", 0), ("A: A", 0), ("*: 0", 0), (": 0", 0), ("1a: a", 0), ("0", 0), ("\n", 0),
    ("a", 1), ("a*", 2), ("a**: a", 2), ("aa: a", 1), ("ac: a", 1), ("aB: a", 1), ("a b: a", 1), ("ab", 2), ("a b", 1),
    ("a:", 2), ("a:a", 2), ("a;a", 1), ("a :a", 1), ("a:  a", 3), ("abcdefg: a", 6), ("abcdef*g: a", 7), ("abcdef", 6),
    ("a*b*c*d*e*f*g", 12), ("a: ", 3), ("a:\ta", 2), ("ab*b: a", 3),
    # Sums.
    ("a: 1a", 3), ("a: 0a", 4), ("a: 00", 4), ("a: 01a", 4), ("a: 0+a", 4), ("a: -0", 4), ("a: -0a", 4), ("a: -1a", 4),
    ("a: +a", 3), ("a: --a", 4), ("a: -", 4), ("a: a+", 5), ("a: 2", 4), ("a: 23", 5), ("a: 2+a", 4), ("a: 2 a", 4),
    ("a: 2*a", 4), ("a: a2", 4), ("a: 1001a", 3), ("a: -1001a", 4), ("a: 99999999999999999999a", 3), ("a: 1", 3),
    ("a: 1001", 3), ("a: 02a", 4), ("a: -02a", 4), ("a: b", 3), ("a: 2b", 4), ("a: -b", 4), ("a: aa", 4), ("a: a+a", 5),
    ("a: a+2a", 6), ("a: a-1a", 5), ("ab: b+a", 6), ("ab: 3b-3a", 8), ("ab: ba", 5), ("ab: a+b+b", 8), ("ab: a+c", 6),
    ("ab: a+1b", 6), ("ab: a+0b", 6), ("ab: a+01b", 6), ("ab: a+1001b", 6), ("a: x", 3), ("a: A", 3), ("a: a ", 4),
    ("a: a; ", 6), ("a: a;", 5), ("a: a;a>=1", 5), ("a: a;  a>=1", 6), ("a: a,", 4), ("a: \u0663a", 3), ("a: \u00b2a", 3),
    ("a: 2\u0663a", 4), ("a: \u0430", 3), ("a: a>=1", 4), ("a: 0>=1", 4), ("a: 0;a=1", 5), ("a: a+-a", 5), ("a: -+a", 4),
    # Rows.
    ("a: a; a", 7), ("a: a; a>", 8), ("a: a; a<", 8), ("a: a; a>1", 8), ("a: a; a<1", 8), ("a: a; a=", 8), ("a: a; a>=", 9),
    ("a: a; a==1", 8), ("a: a; a=>1", 8), ("a: a; a= 1", 8), ("a: a; a >=1", 7), ("a: a; a>=-", 10), ("a: a; a>=--1", 10),
    ("a: a; a>=+1", 9), ("a: a; a>=a", 9), ("a: a; a>=-a", 10), ("a: a; a>=1001", 9), ("a: a; a>=-1001", 9),
    ("a: a; a>=00", 9), ("a: a; a>=01", 9), ("a: a; a>=-0", 9), ("a: a; a>=-01", 9), ("a: a; a>=1a", 10),
    ("a: a; a>=1 ", 10), ("a: a; a>=1;", 11), ("a: a; a>=1; ", 12), ("a: a; a>=1;a", 11), ("a: a; a>=1,", 10),
    ("a: a; >=1", 6), ("a: a; 1>=1", 6), ("a: a; 1a>=1", 6), ("a: a; 0a>=1", 7), ("a: a; 0", 7), ("a: a; -0>=1", 7),
    ("a: a; b>=1", 6), ("a: a; a+b>=1", 8), ("a: a; a+a>=1", 8), ("a: a; a>=1.0", 10), ("a: a; a>=1/2", 10),
    ("a: a; a>=\u0661", 9), ("a: a; a>=1\u0661", 10), ("a: a; a>=" + "9" * 900, 9), ("a: a; " + "9" * 900 + "a>=1", 6),
    ("a: a; a>=1; a>=1001", 15), ("a: a; a!=1", 7), ("a: a\n", 4), ("a: a; a>=1\n", 10),
    # A ninth row.
    ("a: 0" + "; a=1" * 9, 44), ("a: 0" + "; a=1" * 8 + ";", 44), ("a: 0" + "; a=1" * 8 + "; ", 44),
    ("a: 0" + "; a=1" * 8 + "x", 44), ("a: 0" + "; a=1" * 8 + "; x", 44), ("a: 0" + "; a=1" * 7 + "; ", 41),
)
WRONG_ROWS = (
    ("", 0), ("a", 1), ("a>", 2), ("a>=", 3), ("a>=-", 4), (" a>=1", 0), ("a>=1 ", 4), ("a>=1;", 4), ("a>=1; b=1", 4),
    ("a>=1001", 3), ("a>=-1001", 3), ("a>=-0", 3), ("c=1", 0), ("a+c=1", 2), ("b+a=1", 2), ("1a=1", 0), ("a+1b=1", 2),
    ("2", 1), ("1", 0), ("0", 1), ("0a=1", 1), ("00=1", 1), ("=1", 0), (">=1", 0), ("a=1a", 3), ("a=10000", 2), ("-", 1),
    ("a: a", 1), ("ab=1", 1), ("a*=1", 1), ("a=1=1", 3), ("a+b-", 4), ("a+b+b=1", 4), ("2a+1001b=1", 3),
)


def term(number, letter, first):
    """A number with its letter, written once more."""
    text = f"{number:+d}{letter}".replace("+1" + letter, "+" + letter).replace("-1" + letter, "-" + letter)
    return text.removeprefix("+") if first else text


def written_sum(numbers):
    told = [(number, letter) for number, letter in zip(numbers, "abcdef") if number]
    return "".join(term(number, letter, at == 0) for at, (number, letter) in enumerate(told)) or "0"


def written_row(row):
    return f"{written_sum(row[0])}{row[1]}{row[2]}"


def written(task):
    kinds, costs, rows = task
    columns = "".join(letter + kind.strip("+") for letter, kind in zip("abcdef", kinds))
    return "; ".join([f"{columns}: {written_sum(costs)}", *map(written_row, rows)])


class Wrong(Exception):
    """Stands for InvalidText in the reader of the tests."""


class Reader:
    """Looks for the place where a text is wrong, by patterns."""

    def __init__(self, text, place=0):
        self.text, self.place = text, place

    def takes(self, pattern):
        found = re.compile(pattern).match(self.text, self.place)
        if found is None:
            raise Wrong(self.place)
        self.place = found.end()
        return found.group()

    def sees(self, pattern):
        return re.compile(pattern).match(self.text, self.place) is not None

    def columns(self):
        many = 0
        while many < 6 and self.sees("abcdef"[many]):
            self.takes(r".\*?")
            many += 1
        if many == 0:
            raise Wrong(self.place)
        self.takes(":")
        self.takes(" ")
        return "abcdef"[:many]

    def sum(self, letters):
        if self.sees("0"):
            return self.takes("0")
        if self.sees("-"):
            self.takes("-")
        while True:
            if self.sees("[0-9]") and not self.sees(r"([2-9]|[1-9][0-9]|[1-9][0-9][0-9]|1000)(?![0-9])"):
                raise Wrong(self.place)
            self.takes("[0-9]*")
            letter = self.takes(f"[{letters}]" if letters else "(?!)")
            letters = letters[letters.index(letter) + 1:]
            if not self.sees("[-+]"):
                return None
            self.takes("[-+]")

    def row(self, letters):
        self.sum(letters)
        self.takes("[<>]?")
        self.takes("=")
        if not self.sees("-?[0-9]"):
            self.takes("-?")
            raise Wrong(self.place)
        self.takes(r"(0|-?[1-9][0-9]{0,2}|-?1000)(?![0-9])")

    def task(self):
        letters, many = self.columns(), 0
        self.sum(letters)
        while self.place < len(self.text):
            if many == 8:
                raise Wrong(self.place)
            self.takes(";")
            self.takes(" ")
            self.row(letters)
            many += 1


def wrong_place(text, letters=None):
    """The place where a text is wrong, None if it is not; a row's text if there are letters."""
    reader = Reader(text)
    try:
        if letters is None:
            reader.task()
        else:
            reader.row(letters)
            if reader.place < len(text):
                raise Wrong(reader.place)
    except Wrong as error:
        return error.args[0]
    return None


class ExamplesTest(Case):
    def test_examples(self):
        self.gives("ab: 2a+3b; a+2b>=8; 3a+b>=9; a<=6", write, FOOD)
        self.gives(("*", (-1,), (((0,), "<=", 5),)), read, "a*: -a; 0<=5")
        self.gives("a-2b=0", write_row, FOOD, ((1, -2), "=", 0))
        self.gives(((0, 2), ">=", -1), read_row, FOOD, "2b>=-1")
        self.gives("a=1/2 b=3", write_plan, FOOD, ((1, 2), (3, 1)))
        self.fails(InvalidText, {"place": 3}, read, "a: 1a")


class WriteTest(Case):
    def test_known(self):
        for task, text in WRITTEN:
            self.gives(text, write, task)
            self.gives(task, read, text)

    def test_all(self):
        for task in ALL:
            self.gives(written(task), write, task)
            for row in task[2]:
                self.gives(written_row(row), write_row, task, row)

    def test_write_row(self):
        for row, text in (
            (((0, 0), "=", 0), "0=0"), (((0, 0), "<=", -5), "0<=-5"), (((-1, 1), ">=", 1000), "-a+b>=1000"),
            (((1, -1), "<=", -1000), "a-b<=-1000"), (((0, 1000), "=", 1), "1000b=1"), (((-1000, 0), "=", 1), "-1000a=1"),
            (((11, 1), ">=", 10), "11a+b>=10"), (((-11, -1), ">=", 10), "-11a-b>=10"),
        ):
            self.gives(text, write_row, FOOD, row)
            self.gives(row, read_row, FOOD, text)

    def test_write_plan(self):
        self.gives("a=0 b=-1", write_plan, FOOD, ((0, 1), (-1, 1)))
        self.gives("a=-7/2 b=1000000", write_plan, FOOD, ((-7, 2), (1000000, 1)))
        self.gives("a=1/3", write_plan, BARE, ((1, 3),))
        self.gives("a=1 b=2 c=3 d=4 e=5/6 f=0", write_plan, BROAD, ((1, 1), (2, 1), (3, 1), (4, 1), (5, 6), (0, 1)))
        for top in (10 ** 17, 10 ** 18 - 1, 10 ** 18, 10 ** 18 + 7, 10 ** 36, 10 ** 36 - 1, 3 ** 200, -10 ** 40 - 5):
            self.gives(f"a={top}", write_plan, BARE, ((top, 1),))
            self.gives(f"a=1/{abs(top)}", write_plan, BARE, ((1, abs(top)),))
        # Python itself does not write so many digits at once.
        self.gives("a=-1" + "0" * 5000, write_plan, BARE, ((-10 ** 5000, 1),))
        self.gives("a=1/1" + "0" * 5000, write_plan, BARE, ((1, 10 ** 5000),))

    def test_wrong_arguments(self):
        self.fails(BadTask, {"index": None}, write_row, None, None)
        self.fails(BadTask, {"index": 2}, write_plan, put(FOOD, (2, 2, 2), None), None)
        self.fails(BadRow, {}, write_row, BARE, ((1, 2), "=", 0))
        self.fails(BadPlan, {}, write_plan, BARE, ((1, 1), (1, 1)))


class ReadTest(Case):
    def test_all(self):
        for task in ALL:
            self.gives(task, read, write(task))
            for row in task[2]:
                self.gives(row, read_row, task, write_row(task, row))

    def test_known_wrong_ones(self):
        for text, place in WRONG:
            self.assertEqual(wrong_place(text), place, text)
            self.fails(InvalidText, {"place": place}, read, text)
        for text, place in WRONG_ROWS:
            self.assertEqual(wrong_place(text, "ab"), place, text)
            self.fails(InvalidText, {"place": place}, read_row, FOOD, text)

    def looks_at(self, text):
        place = wrong_place(text)
        if place is None:
            self.assertEqual(write(read(text)), text)
        else:
            self.fails(InvalidText, {"place": place}, read, text)
        return place is None

    def looks_at_row(self, text):
        place = wrong_place(text, "ab")
        if place is None:
            self.assertEqual(write_row(FOOD, read_row(FOOD, text)), text)
        else:
            self.fails(InvalidText, {"place": place}, read_row, FOOD, text)
        return place is None

    def test_all_short_ones(self):
        found = []
        for many in range(6):
            for told in product("ab*: 0", repeat=many):
                found.append(self.looks_at("".join(told)))
        for many in range(5):
            for told in product("ab012-+; >", repeat=many):
                found.append(self.looks_at("ab: " + "".join(told)))
                found.append(self.looks_at_row("".join(told) + "<=3"))
                found.append(self.looks_at_row("a-b>=" + "".join(told)))
        self.assertGreater(found.count(True), 100)

    def test_changed_ones(self):
        chance, found = random.Random(143), []
        signs = "abcdefg012391000-+*<>=;: "
        for task in ALL:
            text = write(task)
            for _ in range(25):
                at = chance.randrange(len(text) + 1)
                kind = chance.randrange(4)
                end = at if kind == 0 else at + 1 if kind < 3 else at + chance.randint(1, 6)
                more = "" if kind == 1 else chance.choice(signs) * chance.choice((1, 1, 2))
                found.append(self.looks_at(text[:at] + more + text[end:]))
            self.looks_at(text[:chance.randrange(len(text))])
        self.assertGreater(found.count(True), 200)
        self.assertGreater(found.count(False), 1000)

    def test_cut_off_ones(self):
        for task in ALL[::5]:
            text = write(task)
            for end in range(len(text)):
                self.looks_at(text[:end])
                # Where a text is cut off only its end is wrong, or a number of which only a 1 is left.
                self.assertTrue(wrong_place(text[:end]) in (None, end) or text[wrong_place(text[:end]):end] == "1")

    def test_numbers(self):
        for number in (*range(-12, 13), 99, 100, 101, 998, 999, 1000, 1001, 1010, 9999, 10000, -1000, -1001, -9999):
            if abs(number) <= 1000:
                self.gives(((1, 0), "=", number), read_row, FOOD, f"a={number}")
            else:
                self.fails(InvalidText, {"place": 2}, read_row, FOOD, f"a={number}")
            if 2 <= number <= 1000:
                self.gives(((number, 0), "=", 1), read_row, FOOD, f"{number}a=1")
                self.gives(((1, -number), "=", 1), read_row, FOOD, f"a-{number}b=1")
            elif number > 0:
                self.fails(InvalidText, {"place": 0}, read_row, FOOD, f"{number}a=1")
                self.fails(InvalidText, {"place": 2}, read_row, FOOD, f"a-{number}b=1")

    def test_no_texts(self):
        wrong = [value for value in STRANGERS if not isinstance(value, str)] + [["a: a"], ("a: a",), FOOD, {"a": "a: a"}]
        for value in wrong + ["a" * 1001, "a: a" + " " * 997, " " * 5000, "a: 0" + "; a=1" * 200]:
            self.fails(NotText, {}, read, value)
            self.fails(NotText, {}, read_row, FOOD, value)
        # A text of 1000 signs is one.
        self.fails(InvalidText, {"place": 1}, read, "a" * 1000)
        self.fails(InvalidText, {"place": 4}, read, "a: a" + " " * 996)
        self.fails(InvalidText, {"place": 3}, read_row, FOOD, "a=1" + " " * 997)
        self.fails(InvalidText, {"place": 2}, read_row, FOOD, "a=" + "1" * 998)

    def test_task_comes_first(self):
        for value in (None, "", "a: 1a", "a" * 1001, []):
            self.fails(BadTask, {"index": None}, read_row, "a: a", value)
            self.fails(BadTask, {"index": 0}, read_row, put(FOOD, (2, 0), None), value)

    def test_rows_of_other_tasks(self):
        self.gives(((0, 0, 0, 0, 0, 7), "<=", 0), read_row, BROAD, "7f<=0")
        self.fails(InvalidText, {"place": 0}, read_row, BROAD, "g=1")
        self.fails(InvalidText, {"place": 0}, read_row, BARE, "b=1")
        self.gives(((0,), "=", -1000), read_row, LIMITS, "0=-1000")
        self.gives(((1, 1), "=", 1), read_row, FULL, "a+b=1")
