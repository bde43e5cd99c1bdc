"""How the least cost changes when right sides or costs grow."""

from costpapers.checks import check_column, check_ratio, check_row_index, check_steps, check_task
from costpapers.other import equal_row, paper_range, papers, rights, turned, unit
from costpapers.ratios import compare, minus, over, plus, times
from costpapers.solve import has_plan_over, least_over, solution, span_over
from costpapers.tasks import opposite


def with_time(program, steps):
    """The kinds and rows of a program, and behind all columns the time by which the right sides grow."""
    kinds, _, rows = program
    grown = [(numbers + (-step,), sign, right) for (numbers, sign, right), step in zip(rows, steps)]
    return kinds + "*", tuple(grown)


def cost_at(program, steps, time):
    """The least cost of a program after a time, None if there is none."""
    kinds, rows = with_time(program, steps)
    now = equal_row(unit(len(kinds), len(kinds) - 1), time)
    return least_over(kinds, rows + (now,), program[1] + (0,))


def greatest_over(kinds, rows, numbers):
    """The greatest sum by numbers over all plans of rows, None if there is none."""
    least = least_over(kinds, rows, opposite(numbers))
    return None if least is None else minus(least)


def line_before(program, steps):
    """The base and the slope of the least cost at all times that are early enough."""
    sides, sums = papers(program)
    # The least cost is the most that a paper promises: early on, a paper of the least slope.
    slope = least_over(sides, sums, steps)
    base = greatest_over(sides, sums + (equal_row(steps, slope),), rights(program[2]))
    return base, slope


def line_from(program, steps, time):
    """The base and the slope of the least cost from a time on that is not the last one."""
    sides, sums = papers(program)
    top, low = time
    now = tuple([low * right + top * step for right, step in zip(rights(program[2]), steps)])
    most = greatest_over(sides, sums, now)
    slope = greatest_over(sides, sums + (equal_row(now, most),), steps)
    return plus(over(most, (low, 1)), minus(times(slope, time))), slope


def last_time(program, steps, base, slope):
    """The last time at which the least cost is on a line, None if there is none."""
    kinds, rows = with_time(program, steps)
    top, low = slope
    line = tuple([low * number for number in program[1]]) + (-top,)
    on_line = equal_row(line, times(base, (low, 1)))
    return greatest_over(kinds, rows + (on_line,), unit(len(kinds), len(kinds) - 1))


def pieces(program, steps):
    """The pieces of the least cost of a program when its right sides grow by steps."""
    sides, sums = papers(program)
    kinds, rows = with_time(program, steps)
    if not has_plan_over(sides, sums) or not has_plan_over(kinds, rows):
        return ()
    low, high = span_over(kinds, rows, unit(len(kinds), len(kinds) - 1))
    if low is not None and low == high:
        return ((low, high, cost_at(program, steps, low), (0, 1)),)
    told = []
    while True:
        base, slope = line_before(program, steps) if low is None else line_from(program, steps, low)
        end = last_time(program, steps, base, slope)
        told.append((low, end, base, slope))
        if end == high:
            return tuple(told)
        low = end


def pieces_of_costs(task, steps):
    """The pieces of the least cost of a task when its costs grow by steps."""
    # What the task costs is what its other side costs, negated, and its costs are there right sides, negated.
    told = pieces(turned(task), opposite(steps))
    return tuple([(low, high, minus(base), minus(slope)) for low, high, base, slope in told])


def is_in(piece, time):
    """Tell whether a time is not outside of a piece."""
    low, high = piece[0], piece[1]
    return (low is None or compare(low, time) <= 0) and (high is None or compare(time, high) <= 0)


def cost_after(task, steps, time):
    """The least cost of a task after a time in which its right sides grow by steps, None if there is none."""
    check_task(task)
    check_steps(steps, len(task[2]))
    check_ratio(time)
    return cost_at(task, steps, time)


def right_pieces(task, steps):
    """The pieces (low, high, base, slope) of the least cost over all times when the right sides grow by steps."""
    check_task(task)
    check_steps(steps, len(task[2]))
    return pieces(task, steps)


def cost_pieces(task, steps):
    """The pieces (low, high, base, slope) of the least cost over all times when the costs grow by steps."""
    check_task(task)
    check_steps(steps, len(task[0]))
    return pieces_of_costs(task, steps)


def worth_of_row(task, index):
    """The slopes of the least cost up to now and from now on when the right side of a row grows, or None."""
    check_task(task)
    check_row_index(task, index)
    end, _, _ = solution(task)
    if end != "best":
        return (None, None)
    # The least cost falls and grows by the least and the greatest weight of all papers that promise it now.
    return paper_range(task, index)


def same_until(task, column):
    """From when to when the pieces last in which now lies when the cost of a column grows, None without least cost."""
    check_task(task)
    check_column(task, column)
    end, _, _ = solution(task)
    if end != "best":
        return None
    here = [piece for piece in pieces_of_costs(task, unit(len(task[0]), column)) if is_in(piece, (0, 1))]
    return (here[0][0], here[-1][1])
