"""The corners of the set of plans, the ways out of it, and what they are mixed to."""

from costpapers.checks import are_ratios, check_plan, check_task, is_an_integer, is_ratio
from costpapers.errors import BadPlan, TooWide
from costpapers.other import unit
from costpapers.ratios import ascending, plus, reduced, shared_low, times, tops_over
from costpapers.sets import check_has_plan, cleared, in_steps, limits, rank
from costpapers.solve import least_over, solution, without_divisor
from costpapers.tasks import is_plan, is_tight, opposite, sum_by

MOST_COLUMNS_HERE = 4

# A cone is the set of all vectors of integers whose sums by some rows of integers are not below 0. It is told by its
# lines, vectors that are in it negated, too, and its rays, of which, with lines, all its vectors are sums of
# multiples. Plans are the vectors of a cone that has a last place more, where they have 1, and ways are those that
# have 0 there.


def dot(numbers, others):
    """The sum of the products of integers."""
    return sum([number * other for number, other in zip(numbers, others)])


def onto(vector, mover, row):
    """A multiple of a vector, plus one of a mover whose sum by a row is above 0, so that their sum by it is 0."""
    here, there = dot(vector, row), dot(mover, row)
    return without_divisor([there * item - here * other for item, other in zip(vector, mover)])


def mark_of(ray, rows):
    """An integer whose binary digits tell by which rows the sum of a ray is 0."""
    mark = 0
    for row in rows:
        mark = 2 * mark + (1 if dot(ray, row) == 0 else 0)
    return mark


def are_beside(one, other, marks):
    """Tell whether no third ray has sums 0 by all the rows by which two rays have."""
    both = marks[one] & marks[other]
    return not any([(marks[ray] & both) == both for ray in marks if ray not in (one, other)])


def cut(axes, rays, done, row):
    """The lines and rays of the cone of the rows that are done, and of one row more."""
    crossing = [axis for axis in axes if dot(axis, row) != 0]
    if crossing:
        first = crossing[0] if dot(crossing[0], row) > 0 else opposite(crossing[0])
        left = [onto(axis, first, row) for axis in axes if axis != crossing[0]]
        return left, [onto(ray, first, row) for ray in rays] + [first]
    marks = {ray: mark_of(ray, done) for ray in rays}
    above = [ray for ray in rays if dot(ray, row) > 0]
    below = [ray for ray in rays if dot(ray, row) < 0]
    kept = [ray for ray in rays if dot(ray, row) >= 0]
    return axes, kept + [onto(under, over, row) for over in above for under in below if are_beside(over, under, marks)]


def cone(many, rows):
    """The lines of a cone in steps, and its rays, 0 at the first places of all lines."""
    axes = [unit(many, place) for place in range(many)]
    rays = []
    for index, row in enumerate(rows):
        axes, rays = cut(axes, rays, rows[:index], row)
    steps = in_steps(axes)
    for step in steps:
        place = first_place(step)
        rays = [cleared(ray, step, place) for ray in rays]
    return steps, rays


def first_place(numbers):
    """The first place of integers that are not all 0 where one is not 0."""
    return [place for place, number in enumerate(numbers) if number != 0][0]


def with_last_place(rows):
    """The rows of the cone of what keeps rows, none of them written as "<="."""
    told = []
    for numbers, sign, right in rows:
        told.append(numbers + (-right,))
        if sign == "=":
            told.append(opposite(numbers) + (right,))
    return told


def points_of(rays):
    """The points of the rays whose last place is above 0, ascending."""
    return ascending([tuple([reduced(item, ray[-1]) for item in ray[:-1]]) for ray in rays if ray[-1] > 0])


def parts(task):
    """The base points, outmost ways and lines of a task."""
    many = len(task[0])
    rows = with_last_place(limits(task)) + [unit(many + 1, many)]
    steps, rays = cone(many + 1, rows)
    outmost = sorted([ray[:many] for ray in rays if ray[many] == 0])
    return points_of(rays), outmost, [step[:many] for step in steps]


def check_small(task):
    """Raise NoPlan for a task that has no plan, TooWide for one that has too many columns."""
    check_has_plan(task)
    if len(task[0]) > MOST_COLUMNS_HERE:
        raise TooWide(MOST_COLUMNS_HERE)


def corners_of(task):
    """The corners of a task."""
    points, _, steps = parts(task)
    return [] if steps else points


def tight_limits(task, plan):
    """The limits of a task that are tight for a plan."""
    return [row for row in limits(task) if is_tight(row, plan)]


def rank_of(rows):
    """How many rows of a task do not hang on one another by their numbers."""
    return rank([numbers for numbers, _, _ in rows])


def check_corner(task, plan):
    """Raise BadPlan for a value that is no corner of a task."""
    check_plan(task, plan)
    if not is_corner(task, plan):
        raise BadPlan()


def is_corner(task, plan):
    """Tell whether a plan is a corner."""
    check_task(task)
    check_plan(task, plan)
    return is_plan(task, plan) and rank_of(tight_limits(task, plan)) == len(plan)


def corners(task):
    """All corners, ascending."""
    check_task(task)
    check_small(task)
    return corners_of(task)


def lines(task):
    """The lines of which all lines are sums of multiples, in steps."""
    check_task(task)
    check_small(task)
    _, _, steps = parts(task)
    return steps


def base_points(task):
    """The corners of the plans whose columns are 0 at the first places of all lines, ascending."""
    check_task(task)
    check_small(task)
    points, _, _ = parts(task)
    return points


def ways(task):
    """The outmost ways, ascending."""
    check_task(task)
    check_small(task)
    _, outmost, _ = parts(task)
    return outmost


def neighbors(task, plan):
    """The neighbors of a corner, ascending."""
    check_task(task)
    check_small(task)
    check_corner(task, plan)
    told = []
    for point in corners_of(task):
        both = [row for row in tight_limits(task, plan) if is_tight(row, point)]
        if point != plan and rank_of(both) == len(plan) - 1:
            told.append(point)
    return told


def edge_ways(task, plan):
    """The outmost ways that go on from a corner along an edge, ascending."""
    check_task(task)
    check_small(task)
    check_corner(task, plan)
    _, outmost, _ = parts(task)
    told = []
    for way in outmost:
        along = [row for row in tight_limits(task, plan) if dot(row[0], way) == 0]
        if rank_of(along) == len(plan) - 1:
            told.append(way)
    return told


def best_corners(task):
    """The corners that are best plans, ascending."""
    check_task(task)
    check_small(task)
    kinds, costs, rows = task
    least = least_over(kinds, rows, costs)
    if least is None:
        return []
    return [point for point in corners_of(task) if sum_by(costs, point) == least]


def lots(points, rows):
    """All unlike lists of the points, one at least, for which some rows, none or more, are tight."""
    told = [points]
    for row in rows:
        for lot in list(told):
            both = [point for point in lot if is_tight(row, point)]
            if both and both not in told:
                told.append(both)
    return told


def faces(task):
    """How many lots of corners of each dimension there are."""
    check_task(task)
    check_small(task)
    points = corners_of(task)
    if not points:
        return ()
    rows = limits(task)
    sizes = []
    for lot in lots(points, rows):
        # Limits that are tight for all corners of a lot are so for the whole face, and no others are.
        equal = [row for row in rows if all([is_tight(row, point) for point in lot])]
        sizes.append(len(task[0]) - rank_of(equal))
    return tuple([sizes.count(size) for size in range(max(sizes) + 1)])


def made_by(many, told):
    """The ratios for so many columns that a tuple of pairs (part, weight) makes, parts with a ratio for each column."""
    sums = ((0, 1),) * many
    for part, weight in told:
        sums = tuple([plus(item, times(weight, ratio)) for item, ratio in zip(sums, part)])
    return sums


def over_one(way):
    """Integers as ratios."""
    return tuple([(number, 1) for number in way])


def directions_of(outmost, steps):
    """What may stand for a direction in a mix: outmost ways, lines, and lines negated."""
    return outmost + steps + [opposite(step) for step in steps]


def are_pairs(value):
    """Tell whether a value is a tuple of pairs of any value and a ratio above 0."""
    if not isinstance(value, tuple) or not all([isinstance(item, tuple) and len(item) == 2 for item in value]):
        return False
    return all([is_ratio(weight) and weight[0] > 0 for _, weight in value])


def are_integers(value):
    """Tell whether a value is a tuple of integers."""
    return isinstance(value, tuple) and all([is_an_integer(item) for item in value])


def is_mix(task, value):
    """Tell whether a value is a mix."""
    if not isinstance(value, tuple) or len(value) != 2:
        return False
    told, moves = value
    many = len(task[0])
    if not are_pairs(told) or not are_pairs(moves) or len(told) + len(moves) > many + 1:
        return False
    points, outmost, steps = parts(task)
    directions = directions_of(outmost, steps)
    if not all([are_ratios(part, many) and part in points for part, _ in told]):
        return False
    if not all([are_integers(part) and part in directions for part, _ in moves]):
        return False
    return sum_by((1,) * len(told), [weight for _, weight in told]) == (1, 1)


def is_mixed(task, plan):
    """Tell whether some mix makes ratios for all columns."""
    check_task(task)
    check_plan(task, plan)
    check_small(task)
    # Exactly the plans are mixes of base points, outmost ways and lines.
    return is_plan(task, plan)


def some_mix(task, plan):
    """A mix that makes ratios for all columns, None if there is none."""
    check_task(task)
    check_plan(task, plan)
    check_small(task)
    points, outmost, steps = parts(task)
    directions = directions_of(outmost, steps)
    vectors = [point + ((1, 1),) for point in points] + [over_one(way) + ((0, 1),) for way in directions]
    rows = []
    for place, ratio in enumerate(plan + ((1, 1),)):
        ratios = [vector[place] for vector in vectors] + [ratio]
        numbers = tops_over(ratios, shared_low(ratios))
        rows.append((tuple(numbers[:-1]), "=", numbers[-1]))
    # The weights that are not 0 are bases of the equations, and so no more than these.
    _, weights, _ = solution(("+" * len(vectors), (0,) * len(vectors), tuple(rows)))
    if weights is None:
        return None
    pairs = [(part, weight) for part, weight in zip(points + directions, weights)]
    told = [item for item in pairs[:len(points)] if item[1][0] > 0]
    return (tuple(told), tuple([item for item in pairs[len(points):] if item[1][0] > 0]))


def shows_mix(task, plan, value):
    """Tell whether a value is a mix that makes ratios for all columns."""
    check_task(task)
    check_plan(task, plan)
    check_small(task)
    if not is_mix(task, value):
        return False
    told, moves = value
    ratios = tuple([(over_one(way), weight) for way, weight in moves])
    return made_by(len(plan), told + ratios) == plan
