"""Lines that fit marks, middles of numbers, and lots of marks that lines part."""

from costpapers.checks import are_numbers
from costpapers.errors import BadLists
from costpapers.other import equal_row, first_of, is_one, unit
from costpapers.solve import has_plan_over, least_over, solution

MOST_MARKS = 6


def is_mark(value):
    """Tell whether a value is a mark."""
    return are_numbers(value, 2)


def check_marks(marks):
    """Raise BadLists for a value that is no tuple of marks, or one of too many."""
    if not isinstance(marks, tuple) or not 1 <= len(marks) <= MOST_MARKS or not all([is_mark(item) for item in marks]):
        raise BadLists()


def rows_of_errors(marks, errors):
    """The rows that the error of a line (slope, base) at each mark is not above the sum by its tuple of numbers."""
    rows = []
    for (x, y), error in zip(marks, errors):
        rows.append(((x, 1) + error, ">=", y))
        rows.append(((x, 1) + tuple([-number for number in error]), "<=", y))
    return tuple(rows)


def worst_rows(marks):
    """The rows that no error of a line is above one more number, behind slope and base."""
    return rows_of_errors(marks, [(1,)] * len(marks))


def least_of_worst(marks):
    """The least greatest error of a line."""
    return least_over("**+", worst_rows(marks), (0, 0, 1))


def best_lines(marks):
    """The rows that lines with the least greatest error keep, this error told behind slope and base."""
    return worst_rows(marks) + (equal_row((0, 0, 1), least_of_worst(marks)),)


def rows_of_mean(marks):
    """The rows of numbers by which weights of marks are summed: those of x, of y, and of the weights themselves."""
    return tuple([x for x, _ in marks]), tuple([y for _, y in marks]), (1,) * len(marks)


def is_mean(marks, mark):
    """Tell whether a mark is the mean of marks by some weights."""
    rows = [(numbers, "=", right) for numbers, right in zip(rows_of_mean(marks), mark + (1,))]
    return has_plan_over("+" * len(marks), tuple(rows))


def parting(marks, others):
    """The numbers a, b, c such that a * x + b * y is 1 above c, or more, for all marks, and as much below it for
    all others, None if there are none."""
    rows = [((x, y, -1), ">=", 1) for x, y in marks] + [((x, y, -1), "<=", -1) for x, y in others]
    _, plan, _ = solution(("***", (0, 0, 0), tuple(rows)))
    return plan


def least_worst(marks):
    """The least greatest error of a line."""
    check_marks(marks)
    return least_of_worst(marks)


def first_line(marks):
    """The line (slope, base) of the least greatest error that is least place by place, None if there is no least."""
    check_marks(marks)
    told = first_of("**+", best_lines(marks))
    return None if told is None else told[:2]


def is_one_line(marks):
    """Tell whether just one line has the least greatest error."""
    check_marks(marks)
    return is_one("**+", best_lines(marks))


def least_sum(marks):
    """The least sum of errors of a line."""
    check_marks(marks)
    many = len(marks)
    rows = rows_of_errors(marks, [unit(many, index) for index in range(many)])
    return least_over("**" + "+" * many, rows, (0, 0) + (1,) * many)


def middles(numbers):
    """The least and the greatest ratio with the least sum of distances from numbers."""
    if not isinstance(numbers, tuple) or not 1 <= len(numbers) <= MOST_MARKS or not are_numbers(numbers, len(numbers)):
        raise BadLists()
    rising = sorted(numbers)
    many = len(rising)
    return ((rising[(many - 1) // 2], 1), (rising[many // 2], 1))


def are_parted(marks, others):
    """Tell whether some line has all of one lot of marks on one side and all of another one on the other side."""
    check_marks(marks)
    check_marks(others)
    # Numbers that part the lots part them by as much as is asked for when they are multiplied.
    return parting(marks, others) is not None


def some_parting(marks, others):
    """Ratios (a, b, c) that show two lots parted, None if there are none."""
    check_marks(marks)
    check_marks(others)
    return parting(marks, others)


def some_common(marks, others):
    """Weights of two lots of marks by which both have the same mean point, None if there are none."""
    check_marks(marks)
    check_marks(others)
    across, along, ones = rows_of_mean(marks)
    other_across, other_along, other_ones = rows_of_mean([(-x, -y) for x, y in others])
    rows = (
        (across + other_across, "=", 0),
        (along + other_along, "=", 0),
        (ones + (0,) * len(others), "=", 1),
        ((0,) * len(marks) + other_ones, "=", 1),
    )
    many = len(marks) + len(others)
    _, plan, _ = solution(("+" * many, (0,) * many, rows))
    return None if plan is None else (plan[:len(marks)], plan[len(marks):])


def is_in_hull(marks, mark):
    """Tell whether a mark is the mean of marks by some weights."""
    check_marks(marks)
    if not is_mark(mark):
        raise BadLists()
    return is_mean(marks, mark)


def outer_marks(marks):
    """The unlike marks that are no mean of the other unlike ones, ascending."""
    check_marks(marks)
    unlike = sorted(set(marks))
    return tuple([mark for mark in unlike if not is_mean([other for other in unlike if other != mark], mark)])
