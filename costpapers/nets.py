"""Nets of places and arcs: flows, cuts, and shortest ways."""

from itertools import combinations

from costpapers.checks import is_an_integer, is_index, is_number
from costpapers.errors import BadNet, NoWay
from costpapers.other import first_of, unit

FEWEST_PLACES = 2
MOST_PLACES = 6
MOST_ARCS = 8


def is_arc(value, places):
    """Tell whether a value is an arc between two of so many places."""
    if not isinstance(value, tuple) or len(value) != 3:
        return False
    start, end, number = value
    if not is_index(start, places) or not is_index(end, places) or start == end:
        return False
    return is_number(number) and number >= 0


def is_net(value):
    """Tell whether a value is a net."""
    if not isinstance(value, tuple) or len(value) != 2:
        return False
    places, arcs = value
    if not is_an_integer(places) or not FEWEST_PLACES <= places <= MOST_PLACES:
        return False
    if not isinstance(arcs, tuple) or not 1 <= len(arcs) <= MOST_ARCS:
        return False
    return all([is_arc(arc, places) for arc in arcs])


def check_net(net):
    """Raise BadNet for a value that is no net."""
    if not is_net(net):
        raise BadNet()


def leaving_by(arcs, place):
    """The numbers by which what an arc carries counts as leaving a place: 1, or -1 for an arc that comes to it."""
    return tuple([1 if start == place else -1 if end == place else 0 for start, end, _ in arcs])


def sum_of_cut(arcs, cut):
    """The sum of the numbers of the arcs that leave a cut."""
    return sum([number for start, end, number in arcs if start in cut and end not in cut])


def cuts_of(places):
    """All cuts, those of fewer places first, then ascending."""
    between = list(range(1, places - 1))
    cuts = []
    for many in range(len(between) + 1):
        for chosen in combinations(between, many):
            cuts.append((0,) + chosen)
    return cuts


def least_sum_of_cuts(places, arcs):
    """The least sum of a cut, which is what the greatest flow brings."""
    return min([sum_of_cut(arcs, cut) for cut in cuts_of(places)])


def least_cuts(net):
    """The cuts with the least sum, those of fewer places first, then ascending."""
    places, arcs = net
    least = least_sum_of_cuts(places, arcs)
    return [cut for cut in cuts_of(places) if sum_of_cut(arcs, cut) == least]


def grown(arcs, index):
    """The arcs, one of them with a number that is 1 more."""
    start, end, number = arcs[index]
    return arcs[:index] + ((start, end, number + 1),) + arcs[index + 1:]


def distances(net):
    """How far each place is from the first one, None for no way."""
    places, arcs = net
    far = [0] + [None] * (places - 1)
    # A shortest way has fewer arcs than there are places.
    for _ in range(places - 1):
        for start, end, number in arcs:
            if far[start] is not None and (far[end] is None or far[start] + number < far[end]):
                far[end] = far[start] + number
    return tuple(far)


def is_flow(net, value):
    """Tell whether a value is a flow."""
    check_net(net)
    places, arcs = net
    if not isinstance(value, tuple) or len(value) != len(arcs):
        return False
    if not all([is_an_integer(item) and 0 <= item <= arc[2] for item, arc in zip(value, arcs)]):
        return False
    for place in range(1, places - 1):
        if sum([side * item for side, item in zip(leaving_by(arcs, place), value)]) != 0:
            return False
    return True


def most_flow(net):
    """The greatest difference of what leaves the first place and what comes to it in a flow."""
    check_net(net)
    places, arcs = net
    return least_sum_of_cuts(places, arcs)


def first_flow(net):
    """The greatest flow that is least place by place."""
    check_net(net)
    places, arcs = net
    rows = [(unit(len(arcs), index), "<=", arc[2]) for index, arc in enumerate(arcs)]
    rows = rows + [(leaving_by(arcs, place), "=", 0) for place in range(1, places - 1)]
    rows.append((leaving_by(arcs, 0), "=", least_sum_of_cuts(places, arcs)))
    # What is least place by place is a corner, and the corners of such rows are whole.
    return tuple([top for top, _ in first_of("+" * len(arcs), tuple(rows))])


def least_cut(net):
    """The first one of the cuts with the least sum."""
    check_net(net)
    return least_cuts(net)[0]


def count_cuts(net):
    """How many cuts have the least sum."""
    check_net(net)
    return len(least_cuts(net))


def narrow_arcs(net):
    """The arcs such that the greatest flow grows if the number of that arc alone is 1 more."""
    check_net(net)
    places, arcs = net
    least = least_sum_of_cuts(places, arcs)
    return tuple([at for at in range(len(arcs)) if least_sum_of_cuts(places, grown(arcs, at)) > least])


def shortest(net):
    """The length of the shortest way from the first place to the last one."""
    check_net(net)
    length = distances(net)[-1]
    if length is None:
        raise NoWay()
    return length


def heights(net):
    """How far each place is from the first one, None for no way."""
    check_net(net)
    return distances(net)
