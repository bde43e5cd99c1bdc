"""How a task ends, and the papers, reasons and ways that show it."""

from math import gcd

from costpapers.checks import check_plan, check_task, check_weights
from costpapers.errors import NotBest
from costpapers.ratios import compare, minus, reduced
from costpapers.tasks import cost, is_plan, opposite, sum_by

# A program is a triple (kinds, costs, rows) like a task, but with any integers and any number of columns and rows,
# so that questions about a task, which may need more of them, are programs, too.
#
# A program is solved by lines of whole numbers over one whole number, low, that is above 0. Each line but the last two
# is an equation of a row, and tells what one place, its base, is; the last two tell what costs, and what still lacks.
# The places of a line are those of the parts, which are never below 0, then one for each row that tells its weight,
# then the right side. Parts are the columns (for the kind "*" also the column negated) and what loose rows leave over.


def parts_of(kinds):
    """The parts that columns are made of: pairs of a column and the sign that the part has in it."""
    parts = []
    for column, kind in enumerate(kinds):
        parts.append((column, 1))
        if kind == "*":
            parts.append((column, -1))
    return parts


def first_line(row, index, parts, loose, many):
    """The line of a row, its right side not below 0."""
    numbers, sign, right = row
    # Where the right side leaves a choice, the part that the row leaves over counts up and can be the base.
    turn = -1 if right < 0 or (right == 0 and sign == ">=") else 1
    over = turn if sign == "<=" else -turn
    line = [turn * side * numbers[column] for column, side in parts]
    line = line + [over if other == index else 0 for other in loose]
    line = line + [turn if other == index else 0 for other in range(many)]
    return line + [turn * right]


def first_lines(program, parts):
    """The lines of a program, the place that is the base of each, and how many places are parts."""
    _, costs, rows = program
    many = len(rows)
    loose = [index for index, row in enumerate(rows) if row[1] != "="]
    width = len(parts) + len(loose)
    lines = [first_line(row, index, parts, loose, many) for index, row in enumerate(rows)]
    # A row without such a part has a base that is no part, behind all places of parts: it lacks its right side.
    base = [width + index for index in range(many)]
    for place, index in enumerate(loose, len(parts)):
        if lines[index][place] == 1:
            base[index] = place
    lacking = [line for line, place in zip(lines, base) if place >= width]
    prices = [side * costs[column] for column, side in parts] + [0] * (len(loose) + many + 1)
    lacks = [-sum([line[place] for line in lacking]) for place in range(width + many + 1)]
    return lines + [prices, lacks], base, width


def pivoted(lines, low, at, place):
    """The lines after a place becomes the base of the line at, and the new low number."""
    turned = lines[at] if lines[at][place] > 0 else [-item for item in lines[at]]
    pivot = turned[place]
    # All items are determinants of the first numbers, so that the quotients are whole.
    told = [[(item * pivot - line[place] * other) // low for item, other in zip(line, turned)] for line in lines]
    return told[:at] + [turned] + told[at + 1:], pivot


def entering(line, width):
    """The first part by which what a line tells falls, None if there is none."""
    for place in range(width):
        if line[place] < 0:
            return place
    return None


def leaving(lines, base, place):
    """The line whose base is 0 first if a part grows, None if none ever is."""
    best = None
    for at in range(len(base)):
        if lines[at][place] <= 0:
            continue
        if best is None:
            best = at
            continue
        here = lines[at][-1] * lines[best][place]
        there = lines[best][-1] * lines[at][place]
        # Of several the first place is taken, else the same bases could come again for ever.
        if here < there or (here == there and base[at] < base[best]):
            best = at
    return best


def improved(lines, base, low, goal, width):
    """The lines, bases and low number by which the line goal is least, and a part that lowers it for ever, or None."""
    while True:
        place = entering(lines[goal], width)
        if place is None:
            return lines, base, low, None
        at = leaving(lines, base, place)
        if at is None:
            return lines, base, low, place
        lines, low = pivoted(lines, low, at, place)
        base = base[:at] + [place] + base[at + 1:]


def with_parts_as_bases(lines, base, low, width):
    """The lines, bases and low number with a part as the base of each line that has one."""
    for at in range(len(base)):
        places = [place for place in range(width) if lines[at][place] != 0]
        if base[at] >= width and places:
            lines, low = pivoted(lines, low, at, places[0])
            base = base[:at] + [places[0]] + base[at + 1:]
    return lines, base, low


def by_columns(parts, many, base, amounts):
    """What the columns are if the bases are such amounts."""
    totals = [0] * many
    for place, amount in zip(base, amounts):
        if place < len(parts):
            column, side = parts[place]
            totals[column] += side * amount
    return totals


def weights_of(line, width, many, low):
    """The weights that a line tells."""
    return tuple([reduced(-item, low) for item in line[width:width + many]])


def without_divisor(numbers):
    """The integers without their common divisor, as a tuple."""
    shared = 0
    for number in numbers:
        shared = gcd(shared, number)
    # Only where all integers are 0 there is nothing to divide by.
    return tuple([number // max(shared, 1) for number in numbers])


def solution(program):
    """How a program ends, a plan, and what shows it: ("best", best plan, paper), ("endless", plan, way) or
    ("none", None, reason)."""
    kinds, _, rows = program
    many = len(rows)
    parts = parts_of(kinds)
    lines, base, width = first_lines(program, parts)
    lines, base, low, _ = improved(lines, base, 1, many + 1, width)
    if lines[many + 1][-1] != 0:
        return "none", None, weights_of(lines[many + 1], width, many, low)
    lines, base, low = with_parts_as_bases(lines, base, low, width)
    lines, base, low, place = improved(lines, base, low, many, width)
    amounts = by_columns(parts, len(kinds), base, [line[-1] for line in lines[:many]])
    plan = tuple([reduced(amount, low) for amount in amounts])
    if place is None:
        return "best", plan, weights_of(lines[many], width, many, low)
    moves = [-line[place] for line in lines[:many]] + [low]
    way = by_columns(parts, len(kinds), base + [place], moves)
    return "endless", plan, without_divisor(way)


def has_plan_over(kinds, rows):
    """Tell whether rows have a plan."""
    end, _, _ = solution((kinds, (0,) * len(kinds), rows))
    return end != "none"


def least_over(kinds, rows, numbers):
    """The least sum by numbers over all plans of rows that have some, None if there is none."""
    end, plan, _ = solution((kinds, numbers, rows))
    if end != "best":
        return None
    return sum_by(numbers, plan)


def span_over(kinds, rows, numbers):
    """The least and the greatest sum by numbers over all plans of rows that have some, None in place of one."""
    greatest = least_over(kinds, rows, opposite(numbers))
    return (least_over(kinds, rows, numbers), None if greatest is None else minus(greatest))


def weighted(program, weights):
    """Tell whether weights are a paper of a program."""
    kinds, costs, rows = program
    for row, weight in zip(rows, weights):
        if (row[1] == ">=" and weight[0] < 0) or (row[1] == "<=" and weight[0] > 0):
            return False
    for column, kind in enumerate(kinds):
        order = compare(sum_by([row[0][column] for row in rows], weights), (costs[column], 1))
        if order > 0 or (order < 0 and kind == "*"):
            return False
    return True


def promise_of(rows, weights):
    """The sum of the products of weights and right sides."""
    return sum_by([row[2] for row in rows], weights)


def without_costs(task):
    """The task, were all costs 0."""
    kinds, costs, rows = task
    return (kinds, (0,) * len(costs), rows)


def without_rights(task):
    """The task, were all right sides 0."""
    kinds, costs, rows = task
    return (kinds, costs, tuple([(numbers, sign, 0) for numbers, sign, _ in rows]))


def ending(task):
    """How a task ends: "none", "endless" or "best"."""
    check_task(task)
    end, _, _ = solution(task)
    return end


def best_cost(task):
    """The least cost, None if there is none."""
    check_task(task)
    kinds, costs, rows = task
    return least_over(kinds, rows, costs)


def some_plan(task):
    """A plan, a best one if there is one, None if there is no plan."""
    check_task(task)
    _, plan, _ = solution(task)
    return plan


def is_paper(task, paper):
    """Tell whether weights are a paper."""
    check_task(task)
    check_weights(task, paper)
    return weighted(task, paper)


def promise(task, paper):
    """The sum of the products of weights and right sides."""
    check_task(task)
    check_weights(task, paper)
    return promise_of(task[2], paper)


def some_paper(task):
    """A paper that promises the least cost."""
    check_task(task)
    end, _, shown = solution(task)
    if end != "best":
        raise NotBest()
    return shown


def shows_best(task, plan, paper):
    """Tell whether a plan and a paper show each other best."""
    check_task(task)
    check_plan(task, plan)
    check_weights(task, paper)
    return is_plan(task, plan) and weighted(task, paper) and cost(task, plan) == promise_of(task[2], paper)


def is_reason(task, paper):
    """Tell whether weights are a reason that there is no plan."""
    check_task(task)
    check_weights(task, paper)
    return weighted(without_costs(task), paper) and promise_of(task[2], paper)[0] > 0


def is_way(task, way):
    """Tell whether ratios for all columns are a way along which costs fall for ever."""
    check_task(task)
    check_plan(task, way)
    return is_plan(without_rights(task), way) and cost(task, way)[0] < 0


def some_reason(task):
    """A reason that there is no plan, None if there is one."""
    check_task(task)
    end, _, shown = solution(task)
    if end != "none":
        return None
    return shown


def some_way(task):
    """A way of a task that ends "endless", as integers without a common divisor, None for other tasks."""
    check_task(task)
    end, _, shown = solution(task)
    if end != "endless":
        return None
    return shown
