"""Nets, their flows, cuts and shortest ways: promises 1 and 23."""

import random
from itertools import combinations, product

from costpapers.errors import BadNet, NoWay
from costpapers.nets import (
    count_cuts, first_flow, heights, is_flow, least_cut, most_flow, narrow_arcs, shortest,
)
from tests import reckon
from tests.samples import STRANGERS, Case, put, shape
from tests.wrong import no_counts_of, no_nets

NET = (4, ((0, 1, 3), (0, 2, 2), (1, 2, 1), (1, 3, 2), (2, 3, 4)))
APART = (3, ((0, 1, 1),))
BACK = (3, ((2, 1, 1), (1, 0, 2), (2, 0, 1)))
ZERO = (3, ((0, 1, 0), (1, 2, 0)))
DOUBLE = (2, ((0, 1, 3), (0, 1, 2), (1, 0, 2)))
CHAIN = (6, ((0, 1, 2), (1, 2, 2), (2, 3, 2), (3, 4, 2), (4, 5, 2)))
RING = (4, ((1, 2, 1), (2, 1, 2), (0, 1, 1), (2, 3, 1)))
LARGEST = (6, ((0, 1, 1000), (0, 2, 999), (1, 3, 1000), (2, 4, 1000), (3, 5, 500), (4, 5, 700), (1, 2, 1), (5, 0, 1000)))
NETS = (NET, APART, BACK, ZERO, DOUBLE, CHAIN, RING)


def some_nets():
    """Nets with so small numbers that all flows can be told."""
    yield from NETS
    chance = random.Random(101)
    for most, reach, many in ((4, 2, 80), (6, 2, 60), (8, 1, 40)):
        for _ in range(many):
            places = chance.randint(2, 5 if most < 8 else 6)
            arcs = []
            for _ in range(chance.randint(most // 2, most)):
                start, end = chance.sample(range(places), 2)
                arcs.append((start, end, chance.randint(0, reach)))
            yield places, tuple(arcs)


def large_nets():
    yield LARGEST
    chance = random.Random(102)
    for _ in range(100):
        places, arcs = chance.randint(2, 6), []
        for _ in range(8):
            start, end = chance.sample(range(places), 2)
            arcs.append((start, end, chance.choice((0, 1, 7, 300, 1000))))
        yield places, tuple(arcs)


def brought(arcs, value, place):
    """How much more leaves a place than comes to it."""
    out = sum(item for item, arc in zip(value, arcs) if arc[0] == place)
    return out - sum(item for item, arc in zip(value, arcs) if arc[1] == place)


def all_flows(net):
    """All flows, least place by place first."""
    places, arcs = net
    for value in product(*(range(number + 1) for _, _, number in arcs)):
        if not any(brought(arcs, value, place) for place in range(1, places - 1)):
            yield value


def all_cuts(net):
    """Pairs of the sum and the places of each cut, fewer places first, then ascending."""
    places, arcs = net
    told = []
    for many in range(places - 1):
        for chosen in combinations(range(1, places - 1), many):
            cut = (0, *chosen)
            told.append((sum(arc[2] for arc in arcs if arc[0] in cut and arc[1] not in cut), cut))
    return told


def all_lengths(net):
    """For each place the lengths of all ways from the first one that come to no place twice."""
    places, arcs = net
    told = [[] for _ in range(places)]
    left = [((0,), 0)]
    while left:
        way, length = left.pop()
        told[way[-1]].append(length)
        left += [((*way, end), length + number) for start, end, number in arcs if start == way[-1] and end not in way]
    return told


def rows_of(net):
    """The rows of all flows."""
    places, arcs = net
    rows = [(reckon.one_at(len(arcs), at), "<=", arc[2]) for at, arc in enumerate(arcs)]
    for place in range(1, places - 1):
        rows.append((tuple((arc[0] == place) - (arc[1] == place) for arc in arcs), "=", 0))
    return tuple(rows)


class ExamplesTest(Case):
    def test_examples(self):
        self.gives(5, most_flow, NET)
        self.gives((3, 2, 1, 2, 3), first_flow, NET)
        self.gives(True, is_flow, NET, (0, 0, 0, 0, 0))
        self.gives((0,), least_cut, NET)
        self.gives(2, count_cuts, NET)
        self.gives((1,), narrow_arcs, NET)
        self.gives(5, shortest, NET)
        self.gives((0, 3, 2, 5), heights, NET)
        self.fails(NoWay, {}, shortest, APART)


class FlowsTest(Case):
    def test_is_flow(self):
        found = []
        for net in some_nets():
            if len(net[1]) < 5:
                told = set(all_flows(net))
                for value in product(range(-1, 4), repeat=len(net[1])):
                    found.append(value in told)
                    self.gives(found[-1], is_flow, net, value)
        self.assertGreater(found.count(True), 300)
        self.assertGreater(found.count(False), 300)

    def test_is_flow_of_any_value(self):
        for value in no_counts_of(5):
            self.gives(False, is_flow, NET, value)
        for value in STRANGERS + ([0], (False,), (0, 0), (2,), (-1,), ((0,),), "0"):
            whole = shape(value) in (shape((0,)), shape((1,)))
            self.gives(whole, is_flow, (2, ((0, 1, 1),)), value)
        self.gives(False, is_flow, NET, (1, 0, 0, 0, 0))
        self.gives(False, is_flow, NET, (2, 0, 0, 3, 0))
        self.gives(True, is_flow, NET, (2, 0, 0, 2, 0))
        self.gives(True, is_flow, RING, (1, 1, 0, 0))
        self.gives(True, is_flow, BACK, (1, 1, 1))
        for value in no_nets():
            self.fails(BadNet, {}, is_flow, value, (0, 0, 0, 0, 0))
            self.fails(BadNet, {}, is_flow, value, None)

    def test_most_by_all_flows(self):
        several = 0
        for net in some_nets():
            told = [(brought(net[1], value, 0), value) for value in all_flows(net)]
            most = max(told)[0]
            best = [value for amount, value in told if amount == most]
            several += len(best) > 1
            self.gives(most, most_flow, net)
            self.gives(best[0], first_flow, net)
            self.gives(True, is_flow, net, best[0])
        self.assertGreater(several, 15)

    def test_narrow_arcs_by_all_flows(self):
        narrow = 0
        for net in list(some_nets())[::2]:
            most, told = most_flow(net), []
            for at, arc in enumerate(net[1]):
                more = put(net, (1, at, 2), arc[2] + 1)
                if max(brought(net[1], value, 0) for value in all_flows(more)) > most:
                    told.append(at)
            narrow += len(told)
            self.gives(tuple(told), narrow_arcs, net)
        self.assertGreater(narrow, 50)

    def test_large_ones_by_sums(self):
        for net in large_nets():
            places, arcs = net
            rows, goal = rows_of(net), tuple((arc[0] == 0) - (arc[1] == 0) for arc in arcs)
            kinds = "+" * len(arcs)
            most = reckon.span(kinds, rows, goal)[1]
            self.gives(int(most), most_flow, net)
            first = reckon.first(kinds, (*rows, (goal, "=", int(most))))
            self.gives(tuple(top for top, _ in first), first_flow, net)
            told = []
            for at, arc in enumerate(arcs):
                if reckon.span(kinds, put(rows, (at, 2), arc[2] + 1), goal)[1] > most:
                    told.append(at)
            self.gives(tuple(told), narrow_arcs, net)

    def test_some(self):
        self.gives(0, most_flow, ZERO)
        self.gives((0, 0), first_flow, ZERO)
        # One arc more does not help where another one is 0, too.
        self.gives((), narrow_arcs, ZERO)
        self.gives((1,), narrow_arcs, (3, ((0, 1, 1), (1, 2, 0))))
        self.gives(5, most_flow, DOUBLE)
        self.gives((3, 2, 0), first_flow, DOUBLE)
        self.gives((0, 1), narrow_arcs, DOUBLE)
        self.gives(0, most_flow, BACK)
        self.gives((), narrow_arcs, BACK)
        self.gives((), narrow_arcs, CHAIN)
        self.gives((0,), first_flow, APART)
        # Numbers may grow beyond the most that an arc may have.
        self.gives((0,), narrow_arcs, (2, ((0, 1, 1000),)))


class CutsTest(Case):
    def test_by_all_cuts(self):
        several = 0
        for net in [*some_nets(), *large_nets()]:
            told = all_cuts(net)
            least = min(told)[0]
            best = [cut for total, cut in told if total == least]
            several += len(best) > 1
            self.gives(best[0], least_cut, net)
            self.gives(len(best), count_cuts, net)
            self.gives(least, most_flow, net)
        self.assertGreater(several, 60)

    def test_some(self):
        self.gives((0,), least_cut, CHAIN)
        self.gives(5, count_cuts, CHAIN)
        self.gives(1, count_cuts, DOUBLE)
        self.gives((0,), least_cut, APART[:1] + (((0, 1, 0),),))
        self.gives((0, 1), least_cut, APART)
        self.gives((0, 1, 2), least_cut, (4, ((0, 1, 3), (1, 3, 1), (0, 2, 3), (2, 3, 1), (0, 3, 1), (3, 0, 9))))
        # Arcs that come to the cut are not told in its sum.
        self.gives((0,), least_cut, (3, ((0, 1, 2), (1, 2, 3), (2, 0, 9), (1, 0, 9))))
        self.gives((0, 2), least_cut, (4, ((0, 1, 1), (0, 2, 3), (2, 3, 1), (1, 3, 3))))


class WaysTest(Case):
    def test_by_all_ways(self):
        none = 0
        for net in [*some_nets(), *large_nets()]:
            told = all_lengths(net)
            self.gives(tuple(min(lengths, default=None) for lengths in told), heights, net)
            if told[-1]:
                self.gives(min(told[-1]), shortest, net)
            else:
                none += 1
                self.fails(NoWay, {}, shortest, net)
        self.assertGreater(none, 20)

    def test_some(self):
        self.gives((0, 1, None), heights, APART)
        self.gives((0, None, None), heights, BACK)
        self.fails(NoWay, {}, shortest, BACK)
        self.gives(0, shortest, ZERO)
        self.gives(2, shortest, DOUBLE)
        self.gives((0, 2, 4, 6, 8, 10), heights, CHAIN)
        # Ways may go by places in any order, and along arcs that are told last first.
        self.gives(4, shortest, (6, ((4, 5, 1), (3, 4, 1), (1, 3, 1), (0, 1, 1), (0, 5, 9))))
        self.gives((0, 2, 1), heights, (3, ((0, 1, 5), (2, 1, 1), (0, 2, 1))))
