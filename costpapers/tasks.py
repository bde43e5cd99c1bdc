"""Tasks, their plans, and tasks made from tasks."""

from costpapers.checks import MOST_ROWS, check_plan, check_row, check_row_index, check_task
from costpapers.errors import BadNumber
from costpapers.ratios import compare, plus, times


def sum_by(numbers, ratios):
    """The sum of the products of each number and its ratio."""
    total = (0, 1)
    for number, ratio in zip(numbers, ratios):
        total = plus(total, times((number, 1), ratio))
    return total


def keeps(row, ratios):
    """Tell whether ratios for all columns keep a row."""
    numbers, sign, right = row
    order = compare(sum_by(numbers, ratios), (right, 1))
    if sign == ">=":
        return order >= 0
    if sign == "<=":
        return order <= 0
    return order == 0


def is_tight(row, ratios):
    """Tell whether the right side of a row is the sum of ratios for all columns."""
    numbers, _, right = row
    return sum_by(numbers, ratios) == (right, 1)


def size(task):
    """The pair (number of columns, number of rows)."""
    check_task(task)
    kinds, _, rows = task
    return (len(kinds), len(rows))


def is_plan(task, plan):
    """Tell whether ratios for all columns are a plan."""
    check_task(task)
    check_plan(task, plan)
    kinds, _, rows = task
    for kind, ratio in zip(kinds, plan):
        if kind == "+" and ratio[0] < 0:
            return False
    return all([keeps(row, plan) for row in rows])


def cost(task, plan):
    """The cost of ratios for all columns."""
    check_task(task)
    check_plan(task, plan)
    return sum_by(task[1], plan)


def tight(task, plan):
    """The rows whose right side is the sum of ratios for all columns."""
    check_task(task)
    check_plan(task, plan)
    return tuple([index for index, row in enumerate(task[2]) if is_tight(row, plan)])


def broken(task, plan):
    """The rows that ratios for all columns do not keep."""
    check_task(task)
    check_plan(task, plan)
    return tuple([index for index, row in enumerate(task[2]) if not keeps(row, plan)])


def opposite(numbers):
    """The numbers negated."""
    return tuple([-number for number in numbers])


def plain_row(row):
    """The row, written with ">=" if its sign is "<="."""
    numbers, sign, right = row
    if sign == "<=":
        return (opposite(numbers), ">=", -right)
    return row


def plain(task):
    """The task with each row "<=" written as ">="."""
    check_task(task)
    kinds, costs, rows = task
    return (kinds, costs, tuple([plain_row(row) for row in rows]))


def negated(task):
    """The task with all costs negated."""
    check_task(task)
    kinds, costs, rows = task
    return (kinds, opposite(costs), rows)


def with_row(task, row):
    """The task with one row more, behind the others."""
    check_task(task)
    check_row(task, row)
    kinds, costs, rows = task
    if len(rows) == MOST_ROWS:
        raise BadNumber()
    return (kinds, costs, rows + (row,))


def without_row(task, index):
    """The task with one row less."""
    check_task(task)
    check_row_index(task, index)
    kinds, costs, rows = task
    return (kinds, costs, rows[:index] + rows[index + 1:])
