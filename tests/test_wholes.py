"""Whole plans, and tasks all corners of which are whole: promises 1 and 26."""

import random
from fractions import Fraction
from itertools import product
from math import ceil, floor

from costpapers.errors import NoPlan, NotBounded
from costpapers.solve import best_cost
from costpapers.tasks import is_plan
from costpapers.wholes import best_whole, count_whole, full_rank, gap, is_plainly_whole, is_whole, whole_plans
from tests import reckon
from tests.reckon import dot, pair
from tests.samples import FOOD, TASKS, Case, put

MILL = ("++", (-5, -4), (((6, 4), "<=", 24), ((1, 2), "<=", 6)))
HALF = ("+", (0,), (((2,), "<=", 5),))
NONE = ("++", (1, 1), (((2, 2), "=", 5),))
BETWEEN = ("+", (1,), (((3,), ">=", 1), ((3,), "<=", 2)))
ENDS = ("*", (-1,), (((2,), ">=", -7), ((3,), "<=", 8)))
OPEN = ("+", (1,), ())
EMPTY = ("+", (1,), (((1,), "<=", -1),))
POINT = ("**", (1, 1), (((1, 1), "=", 3), ((1, -1), "=", 1)))
BESIDE = ("**", (1, 1), (((1, 1), "=", 3), ((1, -1), "=", 0)))
# Columns of the kind "*" with ends, one of which is bounded by the others alone.
SIGNS = ("**", (2, -3), (((1, 0), ">=", -2), ((1, 0), "<=", 3), ((1, 2), "<=", 4), ((1, 2), ">=", -5)))


def box(*highs):
    """A task whose columns are from 0 to some numbers."""
    many = len(highs)
    rows = tuple((reckon.one_at(many, at), "<=", high) for at, high in enumerate(highs))
    return "+" * many, tuple(range(1, many + 1)), rows


def bounded_tasks():
    """Tasks with plans whose columns have few integers between their ends."""
    yield from (MILL, HALF, NONE, BETWEEN, ENDS, POINT, BESIDE, SIGNS, box(2, 3, 1), box(0, 0))
    chance = random.Random(121)
    for kinds, costs, rows in reckon.some_tasks(122, 900, columns=(1, 4), rows=(0, 4), reach=5):
        many, most = len(kinds), chance.randint(1, 5)
        less = tuple(-1 if kind == "*" else chance.randint(0, 1) for kind in kinds)
        more = ((tuple(1 for _ in kinds), "<=", most),) if "*" not in kinds else tuple(
            (reckon.one_at(many, at), sign, side * most) for at, kind in enumerate(kinds) if kind == "*"
            for sign, side in (("<=", 1), (">=", -1)))
        task = (kinds, costs, (rows + more + ((less, ">=", -most),))[-8:])
        spans = spans_of(task)
        if spans and all(None not in ends for ends in spans):
            amount = 1
            for low, high in spans:
                amount *= max(0, floor(high) - ceil(low) + 1)
            if amount < 3000:
                yield task


def spans_of(task):
    """The ends of all columns, [] for a task without plans."""
    kinds, _, rows = task
    if reckon.least(kinds, rows, (0,) * len(kinds)) == reckon.NONE:
        return []
    return reckon.ranges(kinds, rows)


def all_whole(task):
    """All whole plans, ascending, told one by one."""
    kinds, _, rows = task
    ends = [range(ceil(low), floor(high) + 1) for low, high in spans_of(task)]
    return [point for point in product(*ends) if reckon.holds_plan(kinds, rows, point)]


class ExamplesTest(Case):
    def test_examples(self):
        self.gives((-20, (4, 0)), best_whole, MILL)
        self.gives((1, 1), gap, MILL)
        self.gives(3, count_whole, HALF)
        self.gives([(0,), (1,), (2,)], whole_plans, HALF)
        self.gives(False, is_whole, HALF)
        self.gives(False, is_plainly_whole, HALF)
        self.gives(2, full_rank, MILL)
        self.fails(NotBounded, {}, best_whole, OPEN)


class WholePlansTest(Case):
    def test_by_all_whole_plans(self):
        told, none, several, apart = 0, 0, 0, 0
        for task in bounded_tasks():
            told += 1
            plans = all_whole(task)
            self.gives(plans, whole_plans, task)
            self.gives(len(plans), count_whole, task)
            if not plans:
                none += 1
                self.gives(None, best_whole, task)
                self.gives(None, gap, task)
                continue
            costs = [int(dot(task[1], plan)) for plan in plans]
            best = min(zip(costs, plans))
            several += costs.count(best[0]) > 1
            self.gives(best, best_whole, task)
            least = reckon.least(task[0], task[2], task[1])
            apart += least < best[0]
            self.gives(pair(best[0] - least), gap, task)
        self.assertGreater(told, 300)
        self.assertGreater(min(none, several, apart), 20)

    def test_some(self):
        self.gives(None, best_whole, NONE)
        self.gives(None, gap, NONE)
        self.gives([], whole_plans, NONE)
        self.gives(0, count_whole, NONE)
        self.gives([], whole_plans, BETWEEN)
        self.gives(None, best_whole, BETWEEN)
        self.gives([(-3,), (-2,), (-1,), (0,), (1,), (2,)], whole_plans, ENDS)
        self.gives((-2, (2,)), best_whole, ENDS)
        self.gives((2, 3), gap, ENDS)
        self.gives([(2, 1)], whole_plans, POINT)
        self.gives((3, (2, 1)), best_whole, POINT)
        self.gives((0, 1), gap, POINT)
        self.gives([], whole_plans, BESIDE)
        self.gives((-10, (-2, 2)), best_whole, ("**", (2, -3), SIGNS[2][:2] + (((1, 2), "<=", 3), ((1, 2), ">=", -5))))
        # Of the best whole plans the least place by place is told.
        self.gives((-3, (0, 3)), best_whole, ("++", (-1, -1), (((2, 2), "<=", 7),)))

    def test_without_plans_or_ends(self):
        half_open = ("+*", (1, 1), (((1, 0), "<=", 1), ((0, 1), ">=", 0)))
        for function in (best_whole, gap, whole_plans, count_whole):
            for task in (OPEN, FOOD, ("*", (0,), ()), ("*", (0,), (((1,), "<=", 3),)), half_open):
                self.fails(NotBounded, {}, function, task)
            # A task without plans has no ends to ask for.
            for task in (EMPTY, ("**", (0, 0), (((1, 0), ">=", 1), ((1, 0), "<=", 0)))):
                self.fails(NoPlan, {}, function, task)
        # No whole plan is needed where there is a plan.
        self.fails(NotBounded, {}, best_whole, ("++", (1, 1), (((2, -2), "=", 1),)))

    def test_5000_and_more(self):
        for task in (box(49, 99), box(9, 9, 49), box(1, 1, 1, 4, 4, 24), self.long_column(4999)):
            self.gives(5000, count_whole, task)
            self.assertEqual(whole_plans(task), all_whole(task))
        for highs in ((50, 99), (49, 100), (72, 72), (17, 17, 17), (1000, 1000), (1000,) * 6):
            task = box(*highs)
            self.fails(NotBounded, {}, whole_plans, task)
            self.fails(NotBounded, {}, count_whole, task)
            self.gives((0, (0,) * len(highs)), best_whole, task)
            self.gives((0, 1), gap, task)
        self.fails(NotBounded, {}, whole_plans, self.long_column(5000))
        self.fails(NotBounded, {}, count_whole, self.long_column(5000))
        # The tuples between the ends are told, not the plans among them.
        thin = ("++", (1, 0), (((1, -1), "=", 0), ((1, 0), "<=", 99)))
        self.fails(NotBounded, {}, count_whole, thin)
        self.gives(70, count_whole, ("++", (1, 0), (((1, -1), "=", 0), ((1, 0), "<=", 69))))
        # No integer lies between the ends of one column, very many between those of the other one.
        self.gives(0, count_whole, ("++", (1, 1), (((3, 0), ">=", 1), ((3, 0), "<=", 2), ((0, 1), "<=", 1000))))
        self.gives([], whole_plans, ("++", (1, 1), (((0, 3), ">=", 1), ((0, 3), "<=", 2), ((1, -1000), "<=", 1000))))
        many = ("+" * 6, (0,) * 6, box(*(1000,) * 6)[2] + (((0, 0, 0, 0, 0, 3), ">=", 1), ((0, 0, 0, 0, 0, 3), "<=", 2)))
        self.gives([], whole_plans, many)
        self.gives(0, count_whole, many)
        self.gives(None, best_whole, many)

    def long_column(self, high):
        """A task of one column from 0 to a number above 1000, and one beside it that is the same in all plans."""
        quotient, rest = divmod(high, 1000)
        return "++", (0, 0), (((1, -1000), "<=", rest), ((0, 1), "=", quotient))


class FarPlansTest(Case):
    """Best whole plans of tasks with very many tuples of integers between the ends."""

    def test_shown_by_divisors(self):
        # No sum of even numbers is odd, however many there are.
        for numbers, right in (((2, -2), 1), ((6, -10), 3), ((999, -996), 1)):
            task = ("++", (1, 1), ((numbers, "=", right), ((1, 0), "<=", 1000)))
            self.gives(None, best_whole, task)
            self.gives(None, gap, task)
        task = ("+++++", (1, -1, 2, -3, 1), (((2, 4, 6, 8, 10), "=", 999),))
        self.gives(None, best_whole, task)
        hidden = ("+++*", (1, 1, 1, 1), (((1, 1, 2, 0), "=", 5), ((1, -1, 0, 4), "=", 2)))
        self.gives(None, best_whole, hidden)

    def test_one_sum(self):
        chance = random.Random(123)
        for _ in range(40):
            many = chance.randint(2, 4)
            numbers = tuple(chance.randint(2, 40) for _ in range(many))
            right = chance.randint(100, 1000)
            costs = tuple(chance.randint(-9, 9) for _ in range(many))
            self.gives(self.least_by_sums(numbers, right, costs), best_whole, ("+" * many, costs, ((numbers, "=", right),)))

    def least_by_sums(self, numbers, right, costs):
        """The least cost and first amounts for each right side up to one, from the amounts for lesser ones."""
        best = {0: (0, (0,) * len(numbers))}
        for total in range(1, right + 1):
            told = []
            for at, number in enumerate(numbers):
                if total - number in best:
                    price, plan = best[total - number]
                    told.append((price + costs[at], plan[:at] + (plan[at] + 1,) + plan[at + 1:]))
            if told:
                best[total] = min(told)
        return best.get(right)

    def test_long_columns(self):
        # The columns reach as far as 10 to the 18th.
        rows = [(tuple(1 if at == place else -1000 if at == place + 1 else 0 for at in range(6)), "<=", 0)
                for place in range(5)]
        rows.append(((0, 0, 0, 0, 0, 1), "<=", 1000))
        task = ("++++++", (-1,) * 6, (*rows, ((2, -4, 6, -8, 10, -12), "=", 1)))
        self.gives(None, best_whole, task)
        most = tuple(1000 ** (6 - place) for place in range(6))
        self.gives((-sum(most), most), best_whole, ("++++++", (-1,) * 6, tuple(rows)))
        self.gives((0, 1), gap, ("++++++", (-1,) * 6, tuple(rows)))
        cost, plan = best_whole(("++++++", (-1,) * 6, (*rows, ((7, -13, 17, -19, 23, -29), "<=", -1))))
        self.assertEqual((cost, dot((7, -13, 17, -19, 23, -29), plan) <= -1), (-sum(plan), True))
        self.assertEqual(cost, ceil(reckon.least("++++++", (*rows, ((7, -13, 17, -19, 23, -29), "<=", -1)), (-1,) * 6)))

    def test_thin_sets(self):
        # Between the two rows there are only such plans as a cut of both tells: 7 a + 11 b is 2 or 3 or 4.
        told = [(a, b) for a in range(-1000, 1001) for b in range(-700, 700) if 2 <= 7 * a + 11 * b <= 4]
        rows = (((7, 11), ">=", 2), ((7, 11), "<=", 4), ((1, 0), ">=", -1000), ((1, 0), "<=", 1000))
        for costs in ((1, 1), (-3, -5), (0, 0), (7, 11), (1000, -999)):
            best = min((int(dot(costs, plan)), plan) for plan in told)
            self.gives(best, best_whole, ("**", costs, rows))

    def test_one_plan_at_an_end(self):
        # Each column is above 0, and so 1 at least: only the plan whose columns are all 1 has no greater sum.
        for many in range(1, 7):
            for side in (1, -1):
                sign = ">=" if side == 1 else "<="
                rows = tuple((tuple(1000 * item for item in reckon.one_at(many, at)), sign, side) for at in range(many))
                total = ((1,) * many, "<=" if side == 1 else ">=", side * many)
                costs = tuple(range(1, many + 1))
                plan = (side,) * many
                self.gives((int(dot(costs, plan)), plan), best_whole, ("*" * many, costs, (*rows, total)))
                if many > 1:
                    less = put(total, (2,), side * (many - 1))
                    self.gives(None, best_whole, ("*" * many, costs, (*rows, less)))
                if many < 6:
                    self.gives([plan], whole_plans, ("*" * many, costs, (*rows, total)))

    def test_few_plans_at_an_end(self):
        # In the middle of these sets there is no whole plan.
        for rows in (
            (((-3, -2, 1, -3), ">=", 1), ((-3, -3, 3, 3), ">=", -6), ((2, 2, 0, -2), ">=", 4),
             ((2, 0, -2, 2), ">=", -5), ((1, -3, 2, 0), "<=", 2)),
            (((6, 6, -6, -1), ">=", 8), ((-5, 1, 5, 2), ">=", -9), ((7, 1, 1, 6), ">=", -21),
             ((0, -8, -8, 7), ">=", 2), ((6, 7, -7, 7), "<=", 14)),
        ):
            for costs in ((0, 0, 0, 0), (1, 2, 3, 4), (-5, 3, 0, -1), (0, -1, 7, -9)):
                plans = all_whole(("****", costs, rows))
                self.gives(min((int(dot(costs, plan)), plan) for plan in plans), best_whole, ("****", costs, rows))

    def test_bounded_by_others(self):
        chance = random.Random(124)
        for _ in range(30):
            many = chance.randint(2, 3)
            kinds = "".join(chance.choice("+*") for _ in range(many))
            costs = tuple(chance.randint(-50, 50) for _ in range(many))
            rows = [(tuple(chance.randint(1, 30) for _ in range(many)), "<=", chance.randint(50, 400))]
            rows += [(reckon.one_at(many, at), ">=", -chance.randint(0, 9)) for at, kind in enumerate(kinds) if kind == "*"]
            rows.append((tuple(chance.randint(-30, 30) for _ in range(many)), ">=", chance.randint(-40, 10)))
            task = (kinds, costs, tuple(rows))
            if not spans_of(task):
                continue
            plans = all_whole(task)
            best = min(((int(dot(costs, plan)), plan) for plan in plans), default=None)
            self.gives(best, best_whole, task)
            self.gives(None if best is None else pair(best[0] - reckon.least(kinds, task[2], costs)), gap, task)
            if best is not None:
                self.assertTrue(is_plan(task, tuple((item, 1) for item in best[1])))
                self.assertLessEqual(Fraction(*best_cost(task)), best[0])


class RowsTest(Case):
    def test_is_whole_by_all_corners(self):
        found = []
        tasks = [*TASKS, *reckon.some_tasks(125, 300, columns=(1, 4), rows=(0, 5), reach=3),
                 *reckon.some_tasks(126, 40, columns=(5, 6), rows=(1, 6), reach=1)]
        for kinds, costs, rows in tasks:
            corners = reckon.corner_points(kinds, rows)
            found.append(all(item.denominator == 1 for corner in corners for item in corner))
            self.gives(found[-1], is_whole, (kinds, costs, rows))
        self.assertGreater(found.count(True), 50)
        self.assertGreater(found.count(False), 50)

    def test_is_whole_of_some(self):
        # Tasks without plans, with a line, and of more than four columns.
        self.gives(True, is_whole, EMPTY)
        self.gives(True, is_whole, ("**", (0, 0), (((2, 2), ">=", 1),)))
        self.gives(True, is_whole, ("*", (0,), ()))
        self.gives(False, is_whole, ("*", (0,), (((2,), ">=", 1),)))
        self.gives(True, is_whole, ("+" * 6, (0,) * 6, ()))
        self.gives(True, is_whole, ("+" * 6, (0,) * 6, (((1,) * 6, "<=", 1000),)))
        self.gives(False, is_whole, ("+" * 5, (0,) * 5, (((1, 1, 1, 1, 2), "<=", 5),)))
        self.gives(True, is_whole, box(3, 4, 5, 6, 7, 8))
        self.gives(False, is_whole, NONE)

    def test_full_rank(self):
        found = {}
        for kinds, costs, rows in [*TASKS, *reckon.some_tasks(129, 300, columns=(1, 6), rows=(0, 8), reach=2)]:
            many = reckon.rank([row[0] for row in rows])
            found[many] = True
            self.gives(many, full_rank, (kinds, costs, rows))
        self.assertEqual(sorted(found), list(range(7)))
        self.gives(0, full_rank, ("+", (5,), ()))
        self.gives(0, full_rank, ("+", (5,), (((0,), "=", 3),)))
        self.gives(1, full_rank, ("++", (5, 5), (((2, 4), "=", 3), ((3, 6), "<=", 1), ((-1, -2), ">=", 0))))
