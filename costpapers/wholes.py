"""Whole plans, and rows that make all corners whole."""

from itertools import combinations

from costpapers.checks import check_task
from costpapers.corners import cone, corners_of, dot, points_of, rank_of, with_last_place
from costpapers.errors import NotBounded
from costpapers.other import ranges, unit
from costpapers.ratios import minus, plus, shared_low, tops_over
from costpapers.sets import check_has_plan, limits
from costpapers.solve import least_over
from costpapers.tasks import opposite

MOST_TUPLES = 5000

# A grid is a pair (base, steps) of a tuple of integers and a list of such tuples; its points are the base plus any
# whole multiples of the steps. A row says of these multiples what it says of the point that they make.


def whole_above(ratio):
    """The least integer that is not below a ratio."""
    return -(-ratio[0] // ratio[1])


def ends_of(task):
    """The least and the greatest integer between the ends of each column, NoPlan or NotBounded if there are none."""
    check_has_plan(task)
    kinds, _, rows = task
    spans = ranges(kinds, rows)
    if any([None in ends for ends in spans]):
        raise NotBounded()
    return [(whole_above(low), high[0] // high[1]) for low, high in spans]


def tuples_between(ends):
    """All tuples of integers between such ends, ascending, NotBounded if there are too many."""
    many = 1
    for low, high in ends:
        many *= max(high - low + 1, 0)
    if many > MOST_TUPLES:
        raise NotBounded()
    if many == 0:
        return []
    told = [()]
    for low, high in ends:
        told = [start + (number,) for start in told for number in range(low, high + 1)]
    return told


def is_held(row, point):
    """Tell whether integers keep a row that is not written as "<="."""
    numbers, sign, right = row
    return dot(numbers, point) == right if sign == "=" else dot(numbers, point) >= right


def added(point, times, step):
    """The sum of a tuple of integers and a multiple of another one."""
    return tuple([here + times * there for here, there in zip(point, step)])


def of_multiples(row, grid):
    """What a row says of the multiples of the steps of a grid."""
    numbers, sign, right = row
    base, steps = grid
    return (tuple([dot(numbers, step) for step in steps]), sign, right - dot(numbers, base))


def part_of(grid, numbers, right):
    """The grid of the points of a grid whose multiples have the right side as their sum by numbers, not all of them 0,
    None if it has none."""
    base, steps = grid
    steps, numbers = list(steps), list(numbers)
    while True:
        sizes = [(abs(number), at) for at, number in enumerate(numbers) if number != 0]
        _, least = min(sizes)
        if len(sizes) == 1:
            break
        # The grid stays the same if multiples of one step are taken from the others.
        for _, at in sizes:
            if at != least:
                turns = numbers[at] // numbers[least]
                numbers[at] -= turns * numbers[least]
                steps[at] = added(steps[at], -turns, steps[least])
    turns, rest = divmod(right, numbers[least])
    if rest != 0:
        return None
    return (added(base, turns, steps[least]), steps[:least] + steps[least + 1:])


def has_numbers(row):
    """Tell whether the numbers of a row are not all 0."""
    return any([number != 0 for number in row[0]])


def corners_in(rows, many):
    """The corners of the plans of rows, as tuples of integers behind which the low number stands that all share."""
    _, rays = cone(many + 1, with_last_place(rows) + [unit(many + 1, many)])
    points = points_of(rays)
    low = shared_low([ratio for point in points for ratio in point])
    return [tuple(tops_over(point, low)) + (low,) for point in points]


def narrow_sum(points):
    """Integers without a common divisor by which the sums of corners, of no flat set, are close together."""
    many = len(points[0]) - 1
    # Behind its numbers each sum has by how much it is greater at each corner than at the first one.
    sums = [unit(many, at) + tuple([point[at] - points[0][at] for point in points]) for at in range(many)]
    pairs = [(at, other) for at in range(many) for other in range(many) if at != other]
    changed = True
    while changed:
        changed = False
        for at, other in pairs:
            mine, size = sums[at][many:], dot(sums[other][many:], sums[other][many:])
            turns = (2 * dot(mine, sums[other][many:]) + size) // (2 * size)
            closer = added(sums[at], -turns, sums[other])
            if dot(closer[many:], closer[many:]) < dot(mine, mine):
                sums[at] = closer
                changed = True
    return min([(dot(told[many:], told[many:]), told[:many]) for told in sums])[1]


def parted(rows, many):
    """Numbers, and the least and the greatest integer that is the sum by them of a plan of rows, which have plans."""
    for row in rows:
        if row[1] == "=" and has_numbers(row):
            return row[0], row[2], row[2]
    points = corners_in(rows, many)
    for row in rows:
        if has_numbers(row) and all([dot(row[0] + (-row[2],), point) == 0 for point in points]):
            return row[0], row[2], row[2]
    numbers = narrow_sum(points)
    low = points[0][many]
    sums = [dot(numbers, point) for point in points]
    return numbers, whole_above((min(sums), low)), max(sums) // low


def some_point(rows, grid):
    """A point of a grid that keeps rows, None if there is none. Between the points of the grid the rows have plans,
    and these have ends."""
    base, steps = grid
    if not steps:
        return base
    numbers, low, high = parted([of_multiples(row, grid) for row in rows], len(steps))
    # The sums in the middle come first: there the most points are.
    right = (low + high) // 2
    for turn in range(high - low + 1):
        right += turn if turn % 2 == 1 else -turn
        part = part_of(grid, numbers, right)
        point = None if part is None else some_point(rows, part)
        if point is not None:
            return point
    return None


def some_whole(rows):
    """A tuple of integers that keeps rows, which have plans, and these have ends, None if there is none."""
    many = len(rows[0][0])
    return some_point(rows, ((0,) * many, [unit(many, column) for column in range(many)]))


def cheapest(rows, costs, point):
    """The integers that keep rows, whose plans have ends, and cost least, or others that cost as much, of which one
    point is given."""
    low = whole_above(least_over("*" * len(costs), rows, costs))
    middle = low
    while low < dot(costs, point):
        found = some_whole(rows + [(opposite(costs), ">=", -middle)])
        if found is None:
            low = middle + 1
        else:
            point = found
        middle = (low + dot(costs, point) - 1) // 2
    return point


def best_of_whole(task):
    """The whole plan of least cost that is least place by place, None if there is none, for tasks with ends."""
    _, costs, _ = task
    rows = limits(task)
    point = some_whole(rows)
    if point is None:
        return None
    for goal in [costs] + [unit(len(costs), column) for column in range(len(costs))]:
        point = cheapest(rows, goal, point)
        rows = rows + [(goal, "=", dot(goal, point))]
    return point


def plans_among(task, points):
    """Those of some tuples of integers that are plans."""
    rows = limits(task)
    return [point for point in points if all([is_held(row, point) for row in rows])]


def determinant(lines):
    """The determinant of as many tuples of integers as each of them has."""
    if not lines:
        return 1
    total, side = 0, 1
    for at, number in enumerate(lines[0]):
        if number != 0:
            total += side * number * determinant([line[:at] + line[at + 1:] for line in lines[1:]])
        side = -side
    return total


def best_whole(task):
    """The least cost of a whole plan, and the whole plan that has it and is least place by place, None without one."""
    check_task(task)
    ends_of(task)
    point = best_of_whole(task)
    return None if point is None else (dot(task[1], point), point)


def gap(task):
    """The least cost of a whole plan less that of any plan, None if there is no whole plan."""
    check_task(task)
    ends_of(task)
    point = best_of_whole(task)
    if point is None:
        return None
    kinds, costs, rows = task
    return plus((dot(costs, point), 1), minus(least_over(kinds, rows, costs)))


def whole_plans(task):
    """All whole plans, ascending."""
    check_task(task)
    return plans_among(task, tuples_between(ends_of(task)))


def count_whole(task):
    """How many whole plans there are."""
    check_task(task)
    return len(plans_among(task, tuples_between(ends_of(task))))


def is_whole(task):
    """Tell whether all corners are whole."""
    check_task(task)
    return all([low == 1 for point in corners_of(task) for _, low in point])


def is_plainly_whole(task):
    """Tell whether each determinant of as many rows as columns, one or more of them, is -1, 0 or 1."""
    check_task(task)
    kinds, _, rows = task
    lines = [numbers for numbers, _, _ in rows]
    for many in range(1, min(len(rows), len(kinds)) + 1):
        for chosen in combinations(lines, many):
            # A determinant stays the same if its rows are told as columns.
            columns = list(zip(*chosen))
            for picked in combinations(columns, many):
                if abs(determinant(picked)) > 1:
                    return False
    return True


def full_rank(task):
    """How many rows do not hang on one another by their numbers."""
    check_task(task)
    return rank_of(task[2])
