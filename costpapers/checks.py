"""Which values are numbers, ratios, rows, tasks and plans, and the errors of those that are not."""

from math import gcd

from costpapers.errors import BadNumber, BadPlan, BadRow, BadTable, BadTask

MOST_COLUMNS = 6
MOST_ROWS = 8
MOST_NUMBER = 1000
MOST_TABLE = 5
ROW_SIGNS = (">=", "<=", "=")


def is_an_integer(value):
    """Tell whether a value is an integer, and neither True nor False."""
    # For Python True and False are integers, for this package they are not.
    return isinstance(value, int) and not isinstance(value, bool)


def is_number(value):
    """Tell whether a value is an integer that may stand in a task."""
    return is_an_integer(value) and -MOST_NUMBER <= value <= MOST_NUMBER


def is_index(value, many):
    """Tell whether a value is the index of one of so many things."""
    return is_an_integer(value) and 0 <= value < many


def is_ratio(value):
    """Tell whether a value is a ratio."""
    if not isinstance(value, tuple) or len(value) != 2:
        return False
    top, low = value
    if not is_an_integer(top) or not is_an_integer(low):
        return False
    return low > 0 and gcd(top, low) == 1


def are_numbers(value, many):
    """Tell whether a value is a tuple of so many integers that may stand in a task."""
    return isinstance(value, tuple) and len(value) == many and all([is_number(item) for item in value])


def are_ratios(value, many):
    """Tell whether a value is a tuple of so many ratios."""
    return isinstance(value, tuple) and len(value) == many and all([is_ratio(item) for item in value])


def are_kinds(value):
    """Tell whether a value is a string of kinds of columns."""
    if not isinstance(value, str) or not 1 <= len(value) <= MOST_COLUMNS:
        return False
    return all([kind in ("+", "*") for kind in value])


def is_row(value, many):
    """Tell whether a value is a row of so many columns."""
    if not isinstance(value, tuple) or len(value) != 3:
        return False
    numbers, sign, right = value
    return are_numbers(numbers, many) and sign in ROW_SIGNS and is_number(right)


def is_frame(value):
    """Tell whether a value is a task but for the items of its third item."""
    if not isinstance(value, tuple) or len(value) != 3:
        return False
    kinds, costs, rows = value
    if not are_kinds(kinds) or not are_numbers(costs, len(kinds)):
        return False
    return isinstance(rows, tuple) and len(rows) <= MOST_ROWS


def is_table_of(value, most):
    """Tell whether a value is a tuple of tuples of as many numbers, of each one at least and so many at most."""
    if not isinstance(value, tuple) or not 1 <= len(value) <= most:
        return False
    first = value[0]
    if not isinstance(first, tuple) or not 1 <= len(first) <= most:
        return False
    return all([are_numbers(row, len(first)) for row in value])


def check_ratio(value):
    """Raise BadNumber for a value that is no ratio."""
    if not is_ratio(value):
        raise BadNumber()


def check_task(task):
    """Raise BadTask for a value that is no task."""
    if not is_frame(task):
        raise BadTask(None)
    kinds, _, rows = task
    for index, row in enumerate(rows):
        if not is_row(row, len(kinds)):
            raise BadTask(index)


def check_plan(task, plan):
    """Raise BadPlan for a value that is not ratios for all columns of a task."""
    if not are_ratios(plan, len(task[0])):
        raise BadPlan()


def check_row(task, row):
    """Raise BadRow for a value that is no row of as many columns as a task has."""
    if not is_row(row, len(task[0])):
        raise BadRow()


def check_row_index(task, index):
    """Raise BadNumber for a value that is not the index of a row of a task."""
    if not is_index(index, len(task[2])):
        raise BadNumber()


def check_weights(task, weights):
    """Raise BadPlan for a value that is not a ratio for each row of a task."""
    if not are_ratios(weights, len(task[2])):
        raise BadPlan()


def check_column(task, column):
    """Raise BadNumber for a value that is not the index of a column of a task."""
    if not is_index(column, len(task[0])):
        raise BadNumber()


def check_steps(steps, many):
    """Raise BadNumber for a value that is no tuple of so many integers that may stand in a task."""
    if not are_numbers(steps, many):
        raise BadNumber()


def check_numbers(task, numbers):
    """Raise BadRow for a value that is no tuple of an integer that may stand in a row for each column of a task."""
    if not are_numbers(numbers, len(task[0])):
        raise BadRow()


def check_table(table):
    """Raise BadTable for a value that is no table."""
    if not is_table_of(table, MOST_TABLE):
        raise BadTable()
