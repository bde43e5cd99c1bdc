"""Games of two players over a table of numbers."""

from costpapers.checks import are_ratios, check_table
from costpapers.corners import cone, points_of
from costpapers.errors import BadTable
from costpapers.other import unit
from costpapers.ratios import compare, minus
from costpapers.solve import least_over
from costpapers.tasks import sum_by


def least_ratio(ratios):
    """The least one of some ratios."""
    least = ratios[0]
    for ratio in ratios:
        if compare(ratio, least) < 0:
            least = ratio
    return least


def turned_table(table):
    """The table with rows and columns changed and all numbers negated: the game of the second player."""
    return tuple([tuple([-row[column] for row in table]) for column in range(len(table[0]))])


def check_mix(mix, many):
    """Raise BadTable for a value that is no mix of so many rows or columns."""
    if not are_ratios(mix, many) or not all([ratio[0] >= 0 for ratio in mix]):
        raise BadTable()
    if sum_by((1,) * many, mix) != (1, 1):
        raise BadTable()


def sure_of(table, mix):
    """The least sum of a mix of rows by the numbers of a column."""
    return least_ratio([sum_by([row[column] for row in table], mix) for column in range(len(table[0]))])


def task_of(table):
    """The task of the first player."""
    many = len(table)
    rows = []
    for column in range(len(table[0])):
        rows.append((tuple([row[column] for row in table]) + (-1,), ">=", 0))
    rows.append(((1,) * many + (0,), "=", 1))
    return ("+" * many + "*", (0,) * many + (-1,), tuple(rows))


def value_of(table):
    """The greatest of what mixes of rows have surely."""
    kinds, costs, rows = task_of(table)
    return minus(least_over(kinds, rows, costs))


def mixes_of(table):
    """The best mixes of rows that are no mean of two others, ascending."""
    many = len(table)
    top, low = value_of(table)
    rows = [unit(many + 1, place) for place in range(many + 1)]
    rows = rows + [(1,) * many + (-1,), (-1,) * many + (1,)]
    for column in range(len(table[0])):
        rows.append(tuple([low * row[column] for row in table]) + (-top,))
    # A mix has no directions to go on for ever, so that all rays of this cone are points.
    _, rays = cone(many + 1, rows)
    return points_of(rays)


def surely(table, mix):
    """The least sum of a mix of rows by the numbers of a column."""
    check_table(table)
    check_mix(mix, len(table))
    return sure_of(table, mix)


def value(table):
    """The greatest of what mixes of rows have surely."""
    check_table(table)
    return value_of(table)


def game_task(table):
    """The task of the first player."""
    check_table(table)
    return task_of(table)


def shows_value(table, mix, other):
    """Tell whether a mix of rows and a mix of columns show each other best."""
    check_table(table)
    check_mix(mix, len(table))
    check_mix(other, len(table[0]))
    # For the second player all numbers are negated, and so is what that player has surely.
    return sure_of(table, mix) == minus(sure_of(turned_table(table), other))


def first_mix(table):
    """The best mix of rows that is least place by place."""
    check_table(table)
    return mixes_of(table)[0]


def first_column_mix(table):
    """The best mix of columns that is least place by place."""
    check_table(table)
    return mixes_of(turned_table(table))[0]


def best_mixes(table):
    """The best mixes of rows that are no mean of two others, ascending."""
    check_table(table)
    return mixes_of(table)


def is_one_mix(table):
    """Tell whether there is just one best mix of rows."""
    check_table(table)
    return len(mixes_of(table)) == 1


def used_rows(table):
    """The rows that are above 0 in some best mix."""
    check_table(table)
    mixes = mixes_of(table)
    return tuple([row for row in range(len(table)) if any([mix[row][0] > 0 for mix in mixes])])


def good_answers(table):
    """The columns by whose numbers the sum of each best mix of rows is the value."""
    check_table(table)
    worth = value_of(table)
    mixes = mixes_of(table)
    told = []
    for column in range(len(table[0])):
        numbers = [row[column] for row in table]
        if all([sum_by(numbers, mix) == worth for mix in mixes]):
            told.append(column)
    return tuple(told)


def saddles(table):
    """The places (row, column) whose number is the least one of its row and the greatest one of its column."""
    check_table(table)
    told = []
    for index, row in enumerate(table):
        for column, number in enumerate(row):
            if number == min(row) and number == max([line[column] for line in table]):
                told.append((index, column))
    return tuple(told)


def safe_row(table):
    """The greatest least number of a row."""
    check_table(table)
    return max([min(row) for row in table])


def two_by_two(table):
    """The value of a table of two rows and two columns."""
    check_table(table)
    if len(table) != 2 or len(table[0]) != 2:
        raise BadTable()
    return value_of(table)


def is_even(table):
    """Tell whether the table with rows and columns changed and all numbers negated is the same."""
    check_table(table)
    return turned_table(table) == table
