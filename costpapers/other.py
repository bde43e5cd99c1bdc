"""The other side of a task, and what all its best plans and best papers have in common."""

from costpapers.checks import MOST_COLUMNS, check_column, check_plan, check_row_index, check_task, check_weights
from costpapers.errors import NoOther, NotBest
from costpapers.ratios import compare
from costpapers.solve import least_over, solution, span_over, without_rights
from costpapers.tasks import is_tight, opposite, plain_row, sum_by


def unit(many, index):
    """The numbers of which the one at an index is 1, all others 0."""
    return tuple([1 if place == index else 0 for place in range(many)])


def equal_row(numbers, ratio):
    """The row "=" that the sum by numbers is a ratio."""
    top, low = ratio
    return (tuple([low * number for number in numbers]), "=", top)


def numbers_there(rows, column):
    """The numbers of rows in a column."""
    return tuple([numbers[column] for numbers, _, _ in rows])


def rights(rows):
    """The right sides of rows."""
    return tuple([right for _, _, right in rows])


def turned(program):
    """The other side of a program of any size."""
    kinds, costs, rows = program
    rows = [plain_row(row) for row in rows]
    sides = "".join(["*" if sign == "=" else "+" for _, sign, _ in rows])
    columns = []
    for column, kind in enumerate(kinds):
        sign = "=" if kind == "*" else ">="
        columns.append((opposite(numbers_there(rows, column)), sign, -costs[column]))
    return (sides, opposite(rights(rows)), tuple(columns))


def papers(program):
    """The kinds and rows whose plans are the papers of a program, its rows not first written as ">="."""
    kinds, costs, rows = program
    many = len(rows)
    sides = "".join(["+" if sign == ">=" else "*" for _, sign, _ in rows])
    below = [(unit(many, index), "<=", 0) for index, row in enumerate(rows) if row[1] == "<="]
    for column, kind in enumerate(kinds):
        below.append((numbers_there(rows, column), "=" if kind == "*" else "<=", costs[column]))
    return sides, tuple(below)


def best_of(task):
    """The least cost of a task, NotBest for one that has none."""
    kinds, costs, rows = task
    least = least_over(kinds, rows, costs)
    if least is None:
        raise NotBest()
    return least


def best_plans(task):
    """The kinds and rows whose plans are the best plans of a task."""
    least = best_of(task)
    kinds, costs, rows = task
    return kinds, rows + (equal_row(costs, least),)


def best_papers(task):
    """The kinds and rows whose plans are the papers that promise the least cost of a task."""
    least = best_of(task)
    sides, rows = papers(task)
    return sides, rows + (equal_row(rights(task[2]), least),)


def first_of(kinds, rows):
    """The plan of rows that is least place by place, None if there is no least one."""
    found = []
    for column in range(len(kinds)):
        numbers = unit(len(kinds), column)
        least = least_over(kinds, rows, numbers)
        if least is None:
            return None
        found.append(least)
        rows = rows + (equal_row(numbers, least),)
    return tuple(found)


def ranges(kinds, rows):
    """The pairs of the least and the greatest ratio of each column over all plans of rows."""
    return [span_over(kinds, rows, unit(len(kinds), column)) for column in range(len(kinds))]


def is_one(kinds, rows):
    """Tell whether rows that have plans have just one."""
    return all([low is not None and low == high for low, high in ranges(kinds, rows)])


def other_side(task):
    """The other side of a task, whose plans are the papers of plain(task)."""
    check_task(task)
    if not 1 <= len(task[2]) <= MOST_COLUMNS:
        raise NoOther()
    return turned(task)


def endings(task):
    """The pair of how a task and its other side end."""
    check_task(task)
    end, _, _ = solution(task)
    if end == "best":
        return ("best", "best")
    if end == "endless":
        return ("endless", "none")
    # With all right sides 0 there is a plan, so that only a task without papers does not end "best".
    over, _, _ = solution(without_rights(task))
    return ("none", "endless" if over == "best" else "none")


def first_plan(task):
    """The best plan that is least place by place, None if there is no least one."""
    check_task(task)
    kinds, rows = best_plans(task)
    return first_of(kinds, rows)


def first_paper(task):
    """The paper that promises the least cost and is least place by place, None if there is no least one."""
    check_task(task)
    sides, rows = best_papers(task)
    return first_of(sides, rows)


def is_one_plan(task):
    """Tell whether there is just one best plan."""
    check_task(task)
    kinds, rows = best_plans(task)
    return is_one(kinds, rows)


def is_one_paper(task):
    """Tell whether just one paper promises the least cost."""
    check_task(task)
    sides, rows = best_papers(task)
    return is_one(sides, rows)


def best_range(task, column):
    """The least and the greatest ratio of a column over all best plans, None in place of one that there is not."""
    check_task(task)
    check_column(task, column)
    kinds, rows = best_plans(task)
    return span_over(kinds, rows, unit(len(kinds), column))


def paper_range(task, index):
    """The least and the greatest weight of a row over all papers that promise the least cost, None likewise."""
    check_task(task)
    check_row_index(task, index)
    sides, rows = best_papers(task)
    return span_over(sides, rows, unit(len(sides), index))


def live_columns(task):
    """The columns of the kind "+" that are above 0 in some best plan."""
    check_task(task)
    kinds, rows = best_plans(task)
    told = []
    for column, (_, high) in enumerate(ranges(kinds, rows)):
        if kinds[column] == "+" and (high is None or high[0] > 0):
            told.append(column)
    return tuple(told)


def dear_columns(task):
    """The columns of the kind "+" whose cost is above the sum of weights by their numbers in some best paper."""
    check_task(task)
    sides, rows = best_papers(task)
    told = []
    for column, kind in enumerate(task[0]):
        if kind == "+":
            least = least_over(sides, rows, numbers_there(task[2], column))
            if least is None or compare(least, (task[1][column], 1)) < 0:
                told.append(column)
    return tuple(told)


def loose_rows(task):
    """The rows ">=" and "<=" that are not tight in some best plan."""
    check_task(task)
    kinds, rows = best_plans(task)
    told = []
    for index, row in enumerate(task[2]):
        numbers, sign, right = plain_row(row)
        if sign == ">=":
            greatest = least_over(kinds, rows, opposite(numbers))
            if greatest is None or compare(greatest, (-right, 1)) < 0:
                told.append(index)
    return tuple(told)


def paid_rows(task):
    """The rows ">=" and "<=" whose weight is not 0 in some best paper."""
    check_task(task)
    sides, rows = best_papers(task)
    spans = ranges(sides, rows)
    return tuple([index for index, row in enumerate(task[2]) if row[1] != "=" and spans[index] != ((0, 1), (0, 1))])


def fits_together(task, plan, paper):
    """Tell whether each row with a weight other than 0 is tight, and each column other than 0 costs what is paid."""
    check_task(task)
    check_plan(task, plan)
    check_weights(task, paper)
    _, costs, rows = task
    for row, weight in zip(rows, paper):
        if weight[0] != 0 and not is_tight(row, plan):
            return False
    for column, ratio in enumerate(plan):
        if ratio[0] != 0 and sum_by(numbers_there(rows, column), paper) != (costs[column], 1):
            return False
    return True
