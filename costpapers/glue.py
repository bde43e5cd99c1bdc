"""Copies of tasks: in another order, side by side, in other units, with other columns or rows, or moved."""

from costpapers.checks import (
    MOST_COLUMNS, MOST_NUMBER, MOST_ROWS, check_steps, check_task, is_an_integer, is_index, is_number,
)
from costpapers.errors import BadNumber, BadOrder
from costpapers.other import unit


def check_order(value, many):
    """Raise BadOrder for a value that does not tell so many indexes, each once."""
    if not isinstance(value, tuple) or not all([is_index(item, many) for item in value]):
        raise BadOrder()
    if sorted(value) != list(range(many)):
        raise BadOrder()


def check_factors(value, many):
    """Raise BadNumber for a value that is no tuple of so many integers from 1 to 1000."""
    if not isinstance(value, tuple) or len(value) != many:
        raise BadNumber()
    if not all([is_an_integer(item) and 1 <= item <= MOST_NUMBER for item in value]):
        raise BadNumber()


def if_small(task):
    """The task, BadNumber if it has too many columns or rows, or too great numbers."""
    kinds, costs, rows = task
    if len(kinds) > MOST_COLUMNS or len(rows) > MOST_ROWS:
        raise BadNumber()
    told = [number for numbers, _, right in rows for number in numbers + (right,)]
    if not all([is_number(number) for number in list(costs) + told]):
        raise BadNumber()
    return task


def in_order(items, order):
    """The items at indexes, one after the other."""
    return tuple([items[index] for index in order])


def without_signs(kinds, numbers):
    """The numbers, each behind which the same one negated stands if its column is of the kind "*"."""
    told = []
    for kind, number in zip(kinds, numbers):
        told = told + ([number, -number] if kind == "*" else [number])
    return tuple(told)


def moved(task, columns, rows):
    """The task with columns and rows in another order."""
    check_task(task)
    kinds, costs, lines = task
    check_order(columns, len(kinds))
    check_order(rows, len(lines))
    told = [(in_order(numbers, columns), sign, right) for numbers, sign, right in in_order(lines, rows)]
    return ("".join([kinds[column] for column in columns]), in_order(costs, columns), tuple(told))


def beside(one, other):
    """The task with the columns and rows of another task behind those of one, 0 where they cross."""
    check_task(one)
    check_task(other)
    kinds, costs, rows = one
    other_kinds, other_costs, other_rows = other
    told = [(numbers + (0,) * len(other_kinds), sign, right) for numbers, sign, right in rows]
    told = told + [((0,) * len(kinds) + numbers, sign, right) for numbers, sign, right in other_rows]
    return if_small((kinds + other_kinds, costs + other_costs, tuple(told)))


def times_rows(task, numbers):
    """The task with each row multiplied by an integer."""
    check_task(task)
    kinds, costs, rows = task
    check_factors(numbers, len(rows))
    told = []
    for factor, (own, sign, right) in zip(numbers, rows):
        told.append((tuple([factor * number for number in own]), sign, factor * right))
    return if_small((kinds, costs, tuple(told)))


def split(task):
    """The task with two columns of the kind "+" in place of each one of the kind "*"."""
    check_task(task)
    kinds, costs, rows = task
    told = [(without_signs(kinds, numbers), sign, right) for numbers, sign, right in rows]
    sides = without_signs(kinds, costs)
    return if_small(("+" * len(sides), sides, tuple(told)))


def with_slacks(task):
    """The task with rows "=" only, a column more for each row that was ">=" or "<="."""
    check_task(task)
    kinds, costs, rows = task
    loose = [index for index, row in enumerate(rows) if row[1] != "="]
    many = len(loose)
    told = []
    for index, (numbers, sign, right) in enumerate(rows):
        side = -1 if sign == ">=" else 1
        told.append((numbers + tuple([side if other == index else 0 for other in loose]), "=", right))
    return if_small((kinds + "+" * many, costs + (0,) * many, tuple(told)))


def as_rows(task):
    """The task with columns of the kind "*" only, a row more for each column that was of the kind "+"."""
    check_task(task)
    kinds, costs, rows = task
    many = len(kinds)
    told = [(unit(many, column), ">=", 0) for column, kind in enumerate(kinds) if kind == "+"]
    return if_small(("*" * many, costs, rows + tuple(told)))


def shifted(task, steps):
    """The task of what is left of plans when integers are taken from the columns of the kind "*"."""
    check_task(task)
    kinds, costs, rows = task
    check_steps(steps, len(kinds))
    if any([kind == "+" and step != 0 for kind, step in zip(kinds, steps)]):
        raise BadNumber()
    told = []
    for numbers, sign, right in rows:
        told.append((numbers, sign, right - sum([number * step for number, step in zip(numbers, steps)])))
    return if_small((kinds, costs, tuple(told)))
