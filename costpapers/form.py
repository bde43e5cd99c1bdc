"""The written form of a set: the rows that tell it, each of them needed, and written in one way only."""

from costpapers.checks import are_numbers, are_ratios, check_task, is_an_integer, is_index
from costpapers.corners import check_small, cone, directions_of, parts
from costpapers.errors import BadLists, BadNumber
from costpapers.ratios import shared_low, tops_over

MOST_COLUMNS_OF_HULLS = 3
MOST_IN_LISTS = 8


def rows_around(many, points, directions):
    """The written form of the sums of points by weights with the sum 1, and of multiples of directions."""
    # A row is asked to hold at all points and along all directions. Such rows are a cone themselves, told by numbers
    # and right side: its lines are the rows "=" of the form, its rays those that are needed beside them.
    asked = []
    for point in points:
        low = shared_low(point)
        asked.append(tuple(tops_over(point, low)) + (-low,))
    asked = asked + [direction + (0,) for direction in directions]
    steps, rays = cone(many + 1, asked)
    equal = [(step[:many], "=", step[many]) for step in steps]
    # The ray without numbers is the row that 0 is not below -1, which is never needed.
    least = [(ray[:many], ">=", ray[many]) for ray in rays if ray[:many] != (0,) * many]
    return tuple(equal + sorted(least))


def are_lists(value, fewest):
    """Tell whether a value is a tuple of as many items as a list for a hull may have."""
    return isinstance(value, tuple) and fewest <= len(value) <= MOST_IN_LISTS


def are_points(value, many):
    """Tell whether a value is a tuple of points of a hull."""
    return are_lists(value, 1) and all([are_ratios(point, many) for point in value])


def are_directions(value, many):
    """Tell whether a value is a tuple of directions of a hull."""
    if not are_lists(value, 0):
        return False
    return all([are_numbers(direction, many) and direction != (0,) * many for direction in value])


def is_rising(value, many):
    """Tell whether a value is a rising tuple of indexes of so many things, one at least."""
    if not isinstance(value, tuple) or not value or not all([is_index(item, many) for item in value]):
        return False
    return all([one < other for one, other in zip(value, value[1:])])


def form(task):
    """The written form of the plans of a task."""
    check_task(task)
    check_small(task)
    points, outmost, steps = parts(task)
    return rows_around(len(task[0]), points, directions_of(outmost, steps))


def hull(many, points, directions):
    """The written form of all sums of points by weights with the sum 1, and of multiples of directions."""
    if not is_an_integer(many) or not 1 <= many <= MOST_COLUMNS_OF_HULLS:
        raise BadNumber()
    if not are_points(points, many) or not are_directions(directions, many):
        raise BadLists()
    return rows_around(many, points, directions)


def shadow(task, columns):
    """The written form of what some columns can be in plans."""
    check_task(task)
    check_small(task)
    if not is_rising(columns, len(task[0])):
        raise BadNumber()
    points, outmost, steps = parts(task)
    told = [tuple([point[column] for column in columns]) for point in points]
    moves = [tuple([way[column] for column in columns]) for way in directions_of(outmost, steps)]
    return rows_around(len(columns), told, moves)
