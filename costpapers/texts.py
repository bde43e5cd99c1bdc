"""Tasks, rows and plans as texts, and tasks and rows read from texts."""

from costpapers.checks import MOST_COLUMNS, MOST_NUMBER, MOST_ROWS, check_plan, check_row, check_task
from costpapers.errors import InvalidText, NotText

LETTERS = "abcdef"
DIGITS = "0123456789"
MOST_SIGNS = 1000
MOST_DIGITS = 4
AT_ONCE = 18


def in_digits(number):
    """An integer in digits, "-" ahead of one below 0."""
    told, rest, most = "", abs(number), 10 ** 18
    # Python itself refuses to write integers of some thousand digits at once.
    while rest >= most:
        rest, part = divmod(rest, most)
        told = str(part).zfill(AT_ONCE) + told
    return ("-" if number < 0 else "") + str(rest) + told


def sum_in_letters(numbers):
    """The text of a sum by numbers."""
    told = ""
    for number, letter in zip(numbers, LETTERS):
        if number != 0:
            ahead = "-" if number < 0 else "+" if told else ""
            told = told + ahead + ("" if abs(number) == 1 else in_digits(abs(number))) + letter
    return told if told else "0"


def text_of_row(row):
    """The text of a row."""
    numbers, sign, right = row
    return sum_in_letters(numbers) + sign + in_digits(right)


def text_of_ratio(ratio):
    """The text of a ratio."""
    top, low = ratio
    return in_digits(top) if low == 1 else in_digits(top) + "/" + in_digits(low)


def check_text(text):
    """Raise NotText for a value that is no string, or one of too many signs."""
    if not isinstance(text, str) or len(text) > MOST_SIGNS:
        raise NotText()


def sign_at(text, place):
    """The sign at a place of a text, "" at its end."""
    return text[place:place + 1]


def behind(text, place, word):
    """The place behind a word that must stand at a place."""
    for at, sign in enumerate(word, place):
        if sign_at(text, at) != sign:
            raise InvalidText(at)
    return place + len(word)


def digits_at(text, place):
    """All digits that stand at a place one behind the other."""
    end = place
    while end < len(text) and text[end] in DIGITS:
        end += 1
    return text[place:end]


def number_of(digits):
    """The number up to 1000 that is so written, None if there is none."""
    if len(digits) > MOST_DIGITS or int(digits) > MOST_NUMBER or str(int(digits)) != digits:
        return None
    return int(digits)


def kinds_at(text):
    """The kinds of the columns with which a text begins, and the place behind them."""
    kinds = ""
    place = 0
    while len(kinds) < MOST_COLUMNS and sign_at(text, place) == LETTERS[len(kinds)]:
        kind = "*" if sign_at(text, place + 1) == "*" else "+"
        place += 2 if kind == "*" else 1
        kinds = kinds + kind
    if not kinds:
        raise InvalidText(place)
    return kinds, place


def term_at(text, place, letters):
    """The number and the letter, one of some letters, that stand at a place, and the place behind them."""
    digits = digits_at(text, place)
    number = number_of(digits) if digits else 1
    if number is None or (digits and number < 2):
        raise InvalidText(place)
    end = place + len(digits)
    letter = sign_at(text, end)
    if letter == "" or letter not in letters:
        raise InvalidText(end)
    return number, letter, end + 1


def sum_at(text, place, many):
    """The numbers of the sum that stands at a place, and the place behind it."""
    numbers = [0] * many
    if sign_at(text, place) == "0":
        return tuple(numbers), place + 1
    side = sign_at(text, place)
    place += 1 if side == "-" else 0
    first = 0
    while True:
        number, letter, place = term_at(text, place, LETTERS[first:many])
        column = LETTERS.index(letter)
        numbers[column] = -number if side == "-" else number
        first = column + 1
        side = sign_at(text, place)
        if side not in ("+", "-"):
            return tuple(numbers), place
        place += 1


def right_at(text, place):
    """The right side that stands at a place, and the place behind it."""
    below = sign_at(text, place) == "-"
    start = place + 1 if below else place
    digits = digits_at(text, start)
    if not digits:
        raise InvalidText(start)
    number = number_of(digits)
    if number is None or (below and number == 0):
        raise InvalidText(place)
    return -number if below else number, start + len(digits)


def row_at(text, place, many):
    """The row that stands at a place, and the place behind it."""
    numbers, place = sum_at(text, place, many)
    first = sign_at(text, place)
    sign = first + "=" if first in (">", "<") else "="
    place = behind(text, place, sign)
    right, place = right_at(text, place)
    return (numbers, sign, right), place


def write(task):
    """The text of a task."""
    check_task(task)
    kinds, costs, rows = task
    columns = "".join([letter + ("*" if kind == "*" else "") for kind, letter in zip(kinds, LETTERS)])
    return columns + ": " + "; ".join([sum_in_letters(costs)] + [text_of_row(row) for row in rows])


def write_row(task, row):
    """The text of a row."""
    check_task(task)
    check_row(task, row)
    return text_of_row(row)


def write_plan(task, plan):
    """The text of ratios for all columns."""
    check_task(task)
    check_plan(task, plan)
    return " ".join([letter + "=" + text_of_ratio(ratio) for letter, ratio in zip(LETTERS, plan)])


def read(text):
    """The task of a text."""
    check_text(text)
    kinds, place = kinds_at(text)
    costs, place = sum_at(text, behind(text, place, ": "), len(kinds))
    rows = []
    while place < len(text):
        if len(rows) == MOST_ROWS:
            raise InvalidText(place)
        row, place = row_at(text, behind(text, place, "; "), len(kinds))
        rows.append(row)
    return (kinds, costs, tuple(rows))


def read_row(task, text):
    """The row of a text."""
    check_task(task)
    check_text(text)
    row, place = row_at(text, 0, len(task[0]))
    if place < len(text):
        raise InvalidText(place)
    return row
