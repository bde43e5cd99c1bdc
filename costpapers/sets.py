"""The set of the plans of a task, and what follows from its rows."""

from costpapers.checks import check_numbers, check_row, check_row_index, check_task, check_weights
from costpapers.errors import NoPlan
from costpapers.other import unit
from costpapers.ratios import compare, minus, plus
from costpapers.solve import has_plan_over, least_over, promise_of, solution, span_over, weighted, without_divisor
from costpapers.tasks import opposite, plain_row, sum_by


def check_has_plan(task):
    """Raise NoPlan for a task that has no plan."""
    kinds, _, rows = task
    if not has_plan_over(kinds, rows):
        raise NoPlan()


def cleared(row, step, place):
    """A multiple of a row, above 0, less one of a step, so that it is 0 at a place where the step is above 0."""
    return without_divisor([step[place] * item - row[place] * other for item, other in zip(row, step)])


def in_steps(rows):
    """The rows, tuples of integers, of which all given ones are sums of multiples: each without a common divisor, its
    first number that is not 0 above 0, and 0 there in all others, from left to right."""
    steps = []
    rest = [without_divisor(row) for row in rows]
    for place in range(len(rows[0]) if rows else 0):
        begun = [row for row in rest if row[place] != 0]
        if begun:
            step = begun[0] if begun[0][place] > 0 else opposite(begun[0])
            steps = [cleared(row, step, place) for row in steps] + [step]
            rest = [cleared(row, step, place) for row in rest]
    return steps


def rank(rows):
    """How many of some rows, tuples of integers, do not hang on one another."""
    return len(in_steps(rows))


def limits(task):
    """The rows of a task, none written as "<=", and the row that it is not below 0 for each column of the kind "+"."""
    kinds, _, rows = task
    told = [plain_row(row) for row in rows]
    for column, kind in enumerate(kinds):
        if kind == "+":
            told.append((unit(len(kinds), column), ">=", 0))
    return told


def slacks(task, row):
    """The least and the greatest difference by which plans pass one of the rows, None for no greatest."""
    kinds, _, rows = task
    numbers, _, right = plain_row(row)
    # All plans keep the row, so that there is a least difference.
    low, high = span_over(kinds, rows, numbers)
    less = (-right, 1)
    return (plus(low, less), None if high is None else plus(high, less))


def are_above(kinds, rows, numbers, right):
    """Tell whether the sums by numbers of all plans are not below the right side."""
    least = least_over(kinds, rows, numbers)
    return least is not None and compare(least, (right, 1)) >= 0


def is_kept(kinds, rows, row):
    """Tell whether all plans of rows, which have some, keep a row."""
    numbers, sign, right = row
    if sign != "<=" and not are_above(kinds, rows, numbers, right):
        return False
    return sign == ">=" or are_above(kinds, rows, opposite(numbers), -right)


def tight_for_all(task):
    """The rows of a task with plans that are tight for all of them."""
    return [index for index, row in enumerate(task[2]) if slacks(task, row) == ((0, 1), (0, 1))]


def zero_for_all(task):
    """The columns of a task with plans that are 0 in all of them."""
    kinds, _, rows = task
    told = []
    for column in range(len(kinds)):
        if span_over(kinds, rows, unit(len(kinds), column)) == ((0, 1), (0, 1)):
            told.append(column)
    return told


def has_plan(task):
    """Tell whether a task has a plan."""
    check_task(task)
    kinds, _, rows = task
    return has_plan_over(kinds, rows)


def always_tight(task):
    """The rows that are tight for all plans."""
    check_task(task)
    check_has_plan(task)
    return tuple(tight_for_all(task))


def always_zero(task):
    """The columns that are 0 in all plans."""
    check_task(task)
    check_has_plan(task)
    return tuple(zero_for_all(task))


def dimension(task):
    """The dimension of the set of plans."""
    check_task(task)
    check_has_plan(task)
    kinds, _, rows = task
    equal = [rows[index][0] for index in tight_for_all(task)]
    equal = equal + [unit(len(kinds), column) for column in zero_for_all(task) if kinds[column] == "+"]
    return len(kinds) - rank(equal)


def is_bounded(task):
    """Tell whether each column has a least and a greatest ratio over all plans."""
    check_task(task)
    check_has_plan(task)
    kinds, _, rows = task
    return all([None not in span_over(kinds, rows, unit(len(kinds), column)) for column in range(len(kinds))])


def span(task, numbers):
    """The least and the greatest sum by numbers over all plans, None in place of one that there is not."""
    check_task(task)
    check_numbers(task, numbers)
    check_has_plan(task)
    kinds, _, rows = task
    return span_over(kinds, rows, numbers)


def slack_span(task, index):
    """The least and the greatest difference by which plans pass a row, None for no greatest."""
    check_task(task)
    check_row_index(task, index)
    check_has_plan(task)
    return slacks(task, task[2][index])


def far_most(task):
    """The greatest number by which some plan passes all rows ">=" and "<=" at once, None if there is none."""
    check_task(task)
    check_has_plan(task)
    kinds, costs, rows = task
    passed = {">=": -1, "<=": 1, "=": 0}
    apart = tuple([(numbers + (passed[sign],), sign, right) for numbers, sign, right in rows])
    least = least_over(kinds + "+", apart, (0,) * len(costs) + (-1,))
    return None if least is None else minus(least)


def follows(task, row):
    """Tell whether all plans keep a row."""
    check_task(task)
    check_row(task, row)
    check_has_plan(task)
    kinds, _, rows = task
    return is_kept(kinds, rows, row)


def some_follow(task, row):
    """Weights that show that a row ">=" or "<=" follows, None if it does not, and for a row "="."""
    check_task(task)
    check_row(task, row)
    check_has_plan(task)
    kinds, _, rows = task
    numbers, sign, right = plain_row(row)
    if sign == "=":
        return None
    end, plan, paper = solution((kinds, numbers, rows))
    if end != "best" or compare(sum_by(numbers, plan), (right, 1)) < 0:
        return None
    return paper


def shows_follows(task, row, paper):
    """Tell whether weights show that a row ">=" or "<=" follows, False for a row "="."""
    check_task(task)
    check_row(task, row)
    check_weights(task, paper)
    kinds, _, rows = task
    numbers, sign, right = plain_row(row)
    if sign == "=":
        return False
    return weighted((kinds, numbers, rows), paper) and compare(promise_of(rows, paper), (right, 1)) >= 0


def needless(task):
    """The rows each of which follows from the task without it."""
    check_task(task)
    check_has_plan(task)
    kinds, _, rows = task
    told = []
    for index, row in enumerate(rows):
        if is_kept(kinds, rows[:index] + rows[index + 1:], row):
            told.append(index)
    return tuple(told)


def thinned(task):
    """The task without the rows that follow, left out one after the other from the last one to the first one."""
    check_task(task)
    check_has_plan(task)
    kinds, costs, rows = task
    left = rows
    for index in reversed(range(len(rows))):
        rest = left[:index] + left[index + 1:]
        if is_kept(kinds, rest, rows[index]):
            left = rest
    return (kinds, costs, left)


def holds_within(one, other):
    """Tell whether all plans of a task are plans of another one."""
    kinds, _, rows = one
    if len(kinds) != len(other[0]):
        return False
    return not has_plan_over(kinds, rows) or all([is_kept(kinds, rows, row) for row in limits(other)])


def is_within(one, other):
    """Tell whether all plans of a task are plans of another one with as many columns."""
    check_task(one)
    check_task(other)
    return holds_within(one, other)


def same_set(one, other):
    """Tell whether two tasks have the same plans."""
    check_task(one)
    check_task(other)
    return holds_within(one, other) and holds_within(other, one)
