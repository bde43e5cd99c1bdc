"""Sums, ends and spans reckoned apart from what the tests look at.

What is least is told in two ways: by elimination, column after column, and, for tasks of any size, by a plan and a
paper that the program gives and whose sums are looked at here. The second one raises an AssertionError if they are
wrong, so that what it tells holds, whatever the program did.
"""

import random
from fractions import Fraction
from itertools import combinations
from math import gcd

from costpapers.solve import solution

NONE, ENDLESS = "none", "endless"


def some_tasks(seed, many, columns=(1, 3), rows=(0, 4), reach=3):
    """Tasks with so many columns and rows, from least to most, the same ones for each call."""
    chance = random.Random(seed)
    for _ in range(many):
        width = chance.randint(*columns)
        kinds = "".join(chance.choice("++*") for _ in range(width))
        costs = numbers_from(chance, width, reach)
        told = tuple(
            (numbers_from(chance, width, reach), chance.choice((">=", ">=", "<=", "<=", "=")), chance.randint(-reach, reach))
            for _ in range(chance.randint(*rows))
        )
        yield kinds, costs, told


def numbers_from(chance, many, reach):
    """Integers, a third of them 0."""
    return tuple(chance.choice((0, 1, 1)) * chance.randint(-reach, reach) for _ in range(many))


def some_best_tasks(seed, many, columns=(1, 3), rows=(0, 4), reach=3):
    """Tasks that end "best", made from a plan and a paper that fit together, the same ones for each call."""
    chance = random.Random(seed)
    for kinds, _, told in some_tasks(seed, many, columns, rows, reach):
        plan = [chance.choice((0, 1)) * chance.randint(0 if kind == "+" else -reach, reach) for kind in kinds]
        costs = [chance.choice((0, 1)) * chance.randint(0, reach) if kind == "+" and not item else 0
                 for kind, item in zip(kinds, plan)]
        rows_told = []
        for numbers, sign, _ in told:
            side = {">=": 1, "<=": -1, "=": chance.choice((1, -1))}[sign]
            weight, left = chance.choice(((0, 0), (0, 0 if sign == "=" else 1), (1, 0), (2, 0)))
            costs = [item + weight * side * number for item, number in zip(costs, numbers)]
            rows_told.append((numbers, sign, int(dot(numbers, plan)) - side * left * chance.randint(1, reach)))
        yield kinds, tuple(costs), tuple(rows_told)


def fractions(ratios):
    return tuple(Fraction(*item) for item in ratios)


def pair(fraction):
    return None if fraction is None else (fraction.numerator, fraction.denominator)


def dot(numbers, ratios):
    return sum((Fraction(number) * item for number, item in zip(numbers, ratios)), Fraction(0))


def kept(row, point):
    numbers, sign, right = row
    told = dot(numbers, point)
    return {">=": told >= right, "<=": told <= right, "=": told == right}[sign]


def holds_plan(kinds, rows, point):
    """Tell whether fractions are a plan."""
    return all(kind == "*" or item >= 0 for kind, item in zip(kinds, point)) and all(kept(row, point) for row in rows)


def holds_paper(kinds, costs, rows, weights):
    """Tell whether fractions are a paper."""
    for (_, sign, _), weight in zip(rows, weights):
        if sign == ">=" and weight < 0 or sign == "<=" and weight > 0:
            return False
    for column, kind in enumerate(kinds):
        told = dot([row[0][column] for row in rows], weights)
        if told > costs[column] or kind == "*" and told != costs[column]:
            return False
    return True


def rights_of(rows):
    return [row[2] for row in rows]


def holds_reason(kinds, rows, weights):
    return holds_paper(kinds, (0,) * len(kinds), rows, weights) and dot(rights_of(rows), weights) > 0


def holds_way(kinds, costs, rows, way):
    return holds_plan(kinds, [(numbers, sign, 0) for numbers, sign, _ in rows], way) and dot(costs, way) < 0


def least(kinds, rows, numbers):
    """The least sum by numbers as a fraction, or NONE or ENDLESS, shown by sums."""
    end, plan, shown = solution((kinds, tuple(numbers), tuple(rows)))
    if end == NONE:
        assert holds_reason(kinds, rows, fractions(shown)), (kinds, rows, shown)
        return NONE
    plan = fractions(plan)
    assert holds_plan(kinds, rows, plan), (kinds, rows, plan)
    if end == ENDLESS:
        assert holds_way(kinds, numbers, rows, [Fraction(item) for item in shown]), (kinds, numbers, rows, shown)
        return ENDLESS
    weights = fractions(shown)
    assert end == "best" and holds_paper(kinds, numbers, rows, weights), (kinds, numbers, rows, shown)
    assert dot(numbers, plan) == dot(rights_of(rows), weights), (kinds, numbers, rows, plan, shown)
    return dot(numbers, plan)


def span(kinds, rows, numbers):
    """The pair of the least and the greatest sum by numbers, None for no end; None if there is no plan."""
    low, high = least(kinds, rows, numbers), least(kinds, rows, [-number for number in numbers])
    if low == NONE:
        return None
    return (None if low == ENDLESS else low, None if high == ENDLESS else -high)


def one_at(many, index):
    return tuple(int(place == index) for place in range(many))


def ranges(kinds, rows):
    return [span(kinds, rows, one_at(len(kinds), column)) for column in range(len(kinds))]


def fixed(numbers, fraction):
    """The row "=" that the sum by numbers is a fraction."""
    return tuple(number * fraction.denominator for number in numbers), "=", fraction.numerator


def first(kinds, rows):
    """The plan least place by place, None if there is none."""
    rows, found = tuple(rows), []
    for column in range(len(kinds)):
        low = least(kinds, rows, one_at(len(kinds), column))
        if low == ENDLESS:
            return None
        found.append(low)
        rows += (fixed(one_at(len(kinds), column), low),)
    return tuple(pair(item) for item in found)


def best_plans(task):
    """The kinds and rows of the best plans of a task that ends "best"."""
    kinds, costs, rows = task
    return kinds, rows + (fixed(costs, least(kinds, rows, costs)),)


def papers(task):
    """The kinds and rows of all papers of a task."""
    kinds, costs, rows = task
    sides = "".join("+" if row[1] == ">=" else "*" for row in rows)
    told = [(one_at(len(rows), index), "<=", 0) for index, row in enumerate(rows) if row[1] == "<="]
    for column, kind in enumerate(kinds):
        told.append((tuple(row[0][column] for row in rows), "<=" if kind == "+" else "=", costs[column]))
    return sides, tuple(told)


def best_papers(task):
    """The kinds and rows of the papers that promise the least cost of a task that ends "best"."""
    sides, told = papers(task)
    kinds, costs, rows = task
    return sides, told + (fixed(rights_of(rows), least(kinds, rows, costs)),)


def whole(numbers):
    """The fractions as integers without a common divisor, multiplied by a number above 0."""
    shared = 1
    for number in numbers:
        shared = shared * number.denominator // gcd(shared, number.denominator)
    told = [int(number * shared) for number in numbers]
    shared = gcd(*told)
    return tuple(number // shared for number in told) if shared else tuple(told)


def eliminated(equal, above, at):
    """Equations and sums that are not below 0, as tuples of integers, after a place has been taken out of them."""
    for pick in equal:
        if pick[at]:
            def rid(row):
                return whole([Fraction(item * abs(pick[at])) - row[at] * other * (1 if pick[at] > 0 else -1)
                              for item, other in zip(row, pick)])
            return {rid(row) for row in equal if row != pick}, {rid(row) for row in above}
    over, under = [row for row in above if row[at] > 0], [row for row in above if row[at] < 0]
    left = {row for row in above if not row[at]}
    for one in over:
        for other in under:
            left.add(whole([Fraction(item * -other[at] + part * one[at]) for item, part in zip(one, other)]))
    return equal, tightest(left)


def tightest(above):
    """The sums that are not below 0 without those that another one with the same numbers makes needless."""
    best = {}
    for row in above:
        size = max(map(abs, row[:-1]), default=0)
        if size == 0:
            best[row] = row
            continue
        key = tuple(Fraction(item, size) for item in row[:-1])
        if key not in best or Fraction(row[-1], size) < Fraction(best[key][-1], max(map(abs, best[key][:-1]))):
            best[key] = row
    return set(best.values())


def span_by_elimination(kinds, rows, numbers):
    """As span, for few columns and rows."""
    many = len(kinds)
    # A row stands as its numbers, 0 for the sum by numbers, and the right side negated.
    equal, above = {whole([Fraction(item) for item in (*numbers, -1, 0)])}, set()
    for column, kind in enumerate(kinds):
        if kind == "+":
            above.add((*one_at(many, column), 0, 0))
    for coefficients, sign, right in rows:
        row = whole([Fraction(item) for item in (*coefficients, 0, -right)])
        if sign == "=":
            equal.add(row)
        else:
            above.add(row if sign == ">=" else tuple(-item for item in row))
    for column in range(many):
        equal, above = eliminated(equal, above, column)
    above = above | equal | {tuple(-item for item in row) for row in equal}
    if any(row[-2] == 0 and row[-1] < 0 for row in above):
        return None
    low = max((Fraction(-row[-1], row[-2]) for row in above if row[-2] > 0), default=None)
    high = min((Fraction(-row[-1], row[-2]) for row in above if row[-2] < 0), default=None)
    if low is not None and high is not None and low > high:
        return None
    return low, high


def settled(rows):
    """The rows that are left of rows of fractions when each is 0 at the first place of all others."""
    told = []
    for row in rows:
        row = [Fraction(item) for item in row]
        for done in told:
            at = first_place(done)
            row = [item - row[at] * other for item, other in zip(row, done)]
        if any(row):
            at = first_place(row)
            row = [item / row[at] for item in row]
            told = [[item - done[at] * other for item, other in zip(done, row)] for done in told] + [row]
    return told


def first_place(row):
    return next(place for place, item in enumerate(row) if item)


def rank(rows):
    return len(settled(rows))


def limits(kinds, rows):
    """All rows, and one for each column of the kind "+"."""
    return [*rows, *((one_at(len(kinds), at), ">=", 0) for at, kind in enumerate(kinds) if kind == "+")]


def tight(row, point):
    return dot(row[0], point) == row[2]


def corner_points(kinds, rows):
    """The corners, from all choices of limits, ascending."""
    found = set()
    for chosen in combinations(limits(kinds, rows), len(kinds)):
        told = settled([(*numbers, right) for numbers, _, right in chosen])
        if len(told) == len(kinds) and all(any(row[:-1]) for row in told):
            point = tuple(row[-1] for row in sorted(told, key=first_place))
            if holds_plan(kinds, rows, point):
                found.add(point)
    return sorted(found)


def outmost_ways(kinds, rows, zeros):
    """The outmost ways that are 0 at some places, from all choices of limits, ascending."""
    many, found = len(kinds), set()
    level = [(numbers, sign, 0) for numbers, sign, _ in rows] + [(one_at(many, at), "=", 0) for at in zeros]
    for chosen in combinations(limits(kinds, level), many - 1):
        told = settled([numbers for numbers, _, _ in chosen])
        if len(told) == many - 1:
            free = next(at for at in range(many) if at not in [first_place(row) for row in told])
            way = [Fraction(int(at == free)) for at in range(many)]
            for row in told:
                way[first_place(row)] = -row[free]
            for one in (way, [-item for item in way]):
                if holds_plan(kinds, level, one):
                    found.add(whole(one))
    return sorted(found)


def parts_of(kinds, rows):
    """Points and ways of which all plans are made: points by weights with the sum 1, ways by any not below 0."""
    many = len(kinds)
    told = settled([numbers for numbers, _, _ in limits(kinds, rows)])
    free = [at for at in range(many) if at not in [first_place(row) for row in told]]
    ways = outmost_ways(kinds, rows, free)
    for at in free:
        line = [Fraction(int(place == at)) for place in range(many)]
        for row in told:
            line[first_place(row)] = -row[at]
        ways += [whole(line), whole([-item for item in line])]
    return corner_points(kinds, [*rows, *((one_at(many, at), "=", 0) for at in free)]), ways


def equal_rank(kinds, rows):
    """How many limits that are tight for all plans do not hang on one another."""
    told = []
    for numbers, _, right in limits(kinds, rows):
        if span(kinds, rows, numbers) == (right, right):
            told.append(numbers)
    return rank(told)


def is_in_steps(rows):
    """Tell whether rows of integers have no common divisors and begin above 0, one behind the other and alone there."""
    places = [first_place(row) for row in rows]
    if sorted(set(places)) != places:
        return False
    alone = all(not other[at] for row, at in zip(rows, places) for other in rows if other is not row)
    return alone and all(gcd(*row) == 1 and row[at] > 0 for row, at in zip(rows, places))


def is_written_form(many, told):
    """Tell whether rows are written as a form, and each of them is needed, for a set that is not empty."""
    if type(told) is not tuple or any(type(item) is not int for row in told for item in (*row[0], row[2])):
        return False
    equal, above = [row for row in told if row[1] == "="], [row for row in told if row[1] == ">="]
    places = [first_place(row[0]) for row in equal]
    if list(told) != equal + sorted(above) or not is_in_steps([(*row[0], row[2]) for row in equal]):
        return False
    for row in above:
        if any(row[0][at] for at in places) or gcd(*row[0], row[2]) != 1:
            return False
        others = [other for other in told if other is not row]
        if least("*" * many, others, row[0]) not in (ENDLESS, NONE) and least("*" * many, others, row[0]) >= row[2]:
            return False
    return equal_rank("*" * many, told) == len(equal)


def all_keep(kinds, rows, others):
    """Tell whether all plans of rows, which have some, keep other rows."""
    for numbers, sign, right in others:
        low, high = span(kinds, rows, numbers)
        if sign != "<=" and (low is None or low < right) or sign != ">=" and (high is None or high > right):
            return False
    return True
