"""Transports, prices and pairings: promises 1, 21 and 22."""

import random
from itertools import product

from costpapers.errors import BadNumber, BadTable, BadTransport, NotBest
from costpapers.solve import best_cost
from costpapers.tasks import size
from costpapers.transports import (
    count_pairings, first_pairing, first_prices, first_table, goods_range, is_one_table, is_table, least_pairing,
    least_transport, pairing_task, promised, shows_prices, table_cost, transport_task,
)
from tests import reckon
from tests.samples import STRANGERS, Case
from tests.wrong import no_counts_of, no_goods, no_transports

GOODS = ((3, 2), (2, 2), ((1, 4), (2, 1)))
SHORT = ((1, 0), (2,), ((5,), (5,)))
EVEN = ((1, 1), (1, 1), ((2, 2), (2, 2)))
PAID = ((3, 1), (1, 0), ((-2, 1), (0, -5)))
WIDE = ((1, 2, 1), (1, 1, 2), ((3, -1, 2), (0, 0, 0), (1, -2, 3)))
LARGEST = ((1000, 1000, 1000), (1000, 1000, 1000), ((1000, -1000, 999), (-1000, 1000, 0), (1, 2, 3)))
NOTHING = ((0,), (0,), ((-7,),))
KNOWN = (
    (GOODS, 4), (SHORT, None), (EVEN, 4), (PAID, -11), (WIDE, 0), (NOTHING, 0), (((0, 0), (0, 1), ((1, 1), (1, 1))), None),
    (((2,), (0, 0), ((3, -4),)), -8), (((2,), (0, 0), ((3, 4),)), 0), (((5,), (2, 3), ((1, -1),)), -1), (LARGEST, -1997000),
    (((4,), (5,), ((1,),)), None),
)
SQUARE = ((1, 2), (3, 9))


def some_transports():
    """Transports with so few goods that all tables of goods can be told."""
    yield from (transport for transport, _ in KNOWN if transport != LARGEST)
    chance = random.Random(91)
    for most, many in ((3, 120), (2, 60)):
        for _ in range(many):
            rows, width = (chance.randint(1, 2), chance.randint(1, 2)) if most == 3 else (chance.randint(1, 3), 2)
            stores = tuple(chance.randint(0, most) for _ in range(rows))
            shops = tuple(chance.randint(0, most - 1) for _ in range(width))
            yield stores, shops, tuple(tuple(chance.randint(-2, 3) for _ in shops) for _ in stores)
    for _ in range(20):
        stores, shops = tuple(chance.randint(0, 1) for _ in range(3)), tuple(chance.randint(0, 1) for _ in range(3))
        yield stores, shops, tuple(tuple(chance.randint(-1, 2) for _ in shops) for _ in stores)


def large_transports():
    """Transports of up to three stores and shops and with any numbers."""
    yield LARGEST
    chance = random.Random(92)
    for reach in (5, 1000):
        for _ in range(60):
            stores = tuple(chance.randint(0, reach) for _ in range(chance.randint(1, 3)))
            shops = tuple(chance.choice((0, 1)) * chance.randint(0, reach) for _ in range(chance.randint(1, 3)))
            yield stores, shops, tuple(tuple(chance.randint(-reach, reach) for _ in shops) for _ in stores)


def lines_of(store, width):
    """All tuples of so many integers not below 0 whose sum is not above a number."""
    return [line for line in product(range(store + 1), repeat=width) if sum(line) <= store]


def all_tables(transport):
    stores, shops, _ = transport
    for value in product(*(lines_of(store, len(shops)) for store in stores)):
        if all(sum(line[at] for line in value) >= shop for at, shop in enumerate(shops)):
            yield value


def cost_of(transport, value):
    return sum(good * number for goods, line in zip(value, transport[2]) for good, number in zip(goods, line))


def best_tables(transport):
    """The least cost and all tables that have it, least place by place first."""
    told = [(cost_of(transport, value), value) for value in all_tables(transport)]
    least = min(told, default=(None,))[0]
    return least, sorted(value for price, value in told if price == least)


def rows_of(transport):
    """The kinds, rows and costs of a transport, written down once more."""
    stores, shops, costs = transport
    places = [(store, shop) for store in range(len(stores)) for shop in range(len(shops))]
    rows = [(tuple(int(place[0] == at) for place in places), "<=", store) for at, store in enumerate(stores)]
    rows += [(tuple(int(place[1] == at) for place in places), ">=", shop) for at, shop in enumerate(shops)]
    return "+" * len(places), tuple(rows), tuple(costs[store][shop] for store, shop in places)


def are_prices(transport, prices, others):
    below = [other <= price + number for price, line in zip(prices, transport[2]) for other, number in zip(others, line)]
    return min((*prices, *others)) >= 0 and all(below)


def promise_of(transport, prices, others):
    earned = sum(other * shop for other, shop in zip(others, transport[1]))
    return earned - sum(price * store for price, store in zip(prices, transport[0]))


class ExamplesTest(Case):
    def test_examples(self):
        self.gives(4, least_transport, GOODS)
        self.gives(((2, 0), (0, 2)), first_table, GOODS)
        self.gives(True, is_table, GOODS, ((2, 0), (0, 2)))
        self.gives(4, table_cost, GOODS, ((2, 0), (0, 2)))
        self.gives(((0, 0), (1, 1)), first_prices, GOODS)
        self.gives(True, shows_prices, GOODS, (0, 0), (1, 1))
        self.gives(4, promised, GOODS, (0, 0), (1, 1))
        self.gives((2, 2), goods_range, GOODS, 0, 0)
        self.gives(True, is_one_table, GOODS)
        self.gives(5, least_pairing, SQUARE)
        self.gives((1, 0), first_pairing, SQUARE)
        self.gives(1, count_pairings, SQUARE)
        self.gives(((1, 1), (1, 1), SQUARE), pairing_task, SQUARE)


class TablesTest(Case):
    def test_known(self):
        for transport, least in KNOWN:
            self.gives(least, least_transport, transport)

    def test_is_table(self):
        found = []
        for transport in some_transports():
            stores, shops, _ = transport
            told = set(all_tables(transport))
            if len(stores) * len(shops) < 5:
                for goods in product(range(-1, 4), repeat=len(stores) * len(shops)):
                    value = tuple(goods[at:at + len(shops)] for at in range(0, len(goods), len(shops)))
                    found.append(value in told)
                    self.gives(found[-1], is_table, transport, value)
        self.assertGreater(found.count(True), 100)
        self.assertGreater(found.count(False), 100)

    def test_is_table_of_any_value(self):
        for value in no_goods():
            self.gives(False, is_table, GOODS, value)
        for value in STRANGERS + (((0,),), ((0,), (0,)), ((1,),), [[0]]):
            self.gives(value == ((0,),), is_table, NOTHING, value)
        self.gives(False, is_table, NOTHING, ((False,),))
        self.gives(True, is_table, ((3, 2), (2, 2), ((0, 0), (0, 0))), ((1, 2), (2, 0)))
        for value in no_transports():
            self.fails(BadTransport, {}, is_table, value, ((2, 0), (0, 2)))
            self.fails(BadTransport, {}, is_table, value, None)

    def test_least_ones_by_all_tables(self):
        several, none = 0, 0
        for transport in some_transports():
            least, told = best_tables(transport)
            self.gives(least, least_transport, transport)
            if least is None:
                none += 1
                self.gives(None, first_table, transport)
                self.fails(NotBest, {}, is_one_table, transport)
                self.fails(NotBest, {}, goods_range, transport, 0, 0)
                continue
            several += len(told) > 1
            self.gives(told[0], first_table, transport)
            self.gives(len(told) == 1, is_one_table, transport)
            for value in told:
                self.gives(True, is_table, transport, value)
                self.gives(least, table_cost, transport, value)
            for store, shop in product(range(len(transport[0])), range(len(transport[1]))):
                goods = [value[store][shop] for value in told]
                self.gives((min(goods), max(goods)), goods_range, transport, store, shop)
        self.assertGreater(several, 30)
        self.assertGreater(none, 30)

    def test_table_cost(self):
        for transport in list(some_transports())[::3]:
            for value in list(all_tables(transport))[::7]:
                self.gives(cost_of(transport, value), table_cost, transport, value)

    def test_large_ones_by_sums(self):
        whole = 0
        for transport in large_transports():
            kinds, rows, costs = rows_of(transport)
            least = reckon.least(kinds, rows, costs)
            if least == reckon.NONE:
                self.gives(None, least_transport, transport)
                self.gives(None, first_table, transport)
                self.gives(None, first_prices, transport)
                continue
            whole += 1
            self.gives(int(least), least_transport, transport)
            best = reckon.best_plans((kinds, costs, rows))
            goods = [top for top, _ in reckon.first(*best)]
            width = len(transport[1])
            self.gives(tuple(tuple(goods[at:at + width]) for at in range(0, len(goods), width)), first_table, transport)
            spans = reckon.ranges(*best)
            self.gives(all(low == high for low, high in spans), is_one_table, transport)
            for at, (low, high) in enumerate(spans):
                self.assertEqual((low.denominator, high.denominator), (1, 1))
                self.gives((int(low), int(high)), goods_range, transport, at // width, at % width)
        self.assertGreater(whole, 40)

    def test_transport_task(self):
        wide = 0
        for transport in [*some_transports(), *large_transports()]:
            kinds, rows, costs = rows_of(transport)
            if len(kinds) > 6:
                wide += 1
                self.fails(BadNumber, {}, transport_task, transport)
            else:
                self.gives((kinds, costs, rows), transport_task, transport)
                self.gives((len(kinds), len(rows)), size, transport_task(transport))
                least = least_transport(transport)
                self.gives(None if least is None else (least, 1), best_cost, transport_task(transport))
        self.assertGreater(wide, 20)
        rows = (((1, 1, 0, 0), "<=", 3), ((0, 0, 1, 1), "<=", 2), ((1, 0, 1, 0), ">=", 2), ((0, 1, 0, 1), ">=", 2))
        self.gives(("++++", (1, 4, 2, 1), rows), transport_task, GOODS)
        self.gives(("+", (-7,), (((1,), "<=", 0), ((1,), ">=", 0))), transport_task, NOTHING)
        self.fails(BadNumber, {}, transport_task, WIDE)

    def test_several_least_ones(self):
        self.gives(False, is_one_table, EVEN)
        self.gives(((0, 1), (1, 0)), first_table, EVEN)
        self.gives((0, 1), goods_range, EVEN, 0, 0)
        # A good that costs nothing may be left or brought.
        spare = ((2,), (1,), ((0,),))
        self.gives(((1,),), first_table, spare)
        self.gives((1, 2), goods_range, spare, 0, 0)
        self.gives(False, is_one_table, spare)

    def test_goods_range_of_wrong_places(self):
        for value in STRANGERS + (-1, -2, 2, 10 ** 30, "0"):
            if type(value) is not int or not 0 <= value < 2:
                for transport in (GOODS, SHORT):
                    self.fails(BadTransport, {}, goods_range, transport, value, 0)
                self.fails(BadTransport, {}, goods_range, GOODS, 0, value)
                # The error of the place stands ahead of NotBest.
                self.fails(BadTransport, {}, goods_range, SHORT, 0, value)
        self.fails(BadTransport, {}, goods_range, SHORT, 0, 1)
        self.fails(NotBest, {}, goods_range, SHORT, 1, 0)


class PricesTest(Case):
    def test_shows_prices(self):
        found = []
        for transport in list(some_transports())[::4]:
            stores, shops, _ = transport
            for told in product((-1, 0, 1, 3), repeat=len(stores) + len(shops)):
                prices, others = told[:len(stores)], told[len(stores):]
                found.append(are_prices(transport, prices, others))
                self.gives(found[-1], shows_prices, transport, prices, others)
                if found[-1]:
                    self.gives(promise_of(transport, prices, others), promised, transport, prices, others)
                else:
                    self.fails(BadTable, {}, promised, transport, prices, others)
        self.assertGreater(found.count(True), 200)
        self.assertGreater(found.count(False), 200)

    def test_shows_prices_of_any_values(self):
        for value in no_counts_of(2):
            self.gives(False, shows_prices, GOODS, value, (0, 0))
            self.gives(False, shows_prices, GOODS, (0, 0), value)
            self.gives(False, shows_prices, GOODS, value, value)
        large = 10 ** 40
        self.gives(True, shows_prices, GOODS, (large, large), (large, large))
        self.gives(-large, promised, GOODS, (large, large), (large, large))
        for value in no_transports():
            self.fails(BadTransport, {}, shows_prices, value, (0, 0), (1, 1))
            self.fails(BadTransport, {}, promised, value, None, None)

    def test_no_table_costs_less_than_prices_promise(self):
        for transport in list(some_transports())[::5]:
            stores, shops, _ = transport
            costs = [cost_of(transport, value) for value in all_tables(transport)]
            for told in product((0, 1, 2), repeat=len(stores) + len(shops)):
                prices, others = told[:len(stores)], told[len(stores):]
                if costs and are_prices(transport, prices, others):
                    self.assertLessEqual(promised(transport, prices, others), min(costs))

    def test_first_prices_by_all_prices(self):
        told, many = 0, 0
        for transport in some_transports():
            stores, shops, _ = transport
            least, _ = best_tables(transport)
            if least is None:
                self.gives(None, first_prices, transport)
                continue
            if len(stores) + len(shops) > 4:
                continue
            # No first prices are as high as 7 where no cost is above 3 and none is below -2.
            found = (
                (item[:len(stores)], item[len(stores):]) for item in product(range(8), repeat=len(stores) + len(shops))
                if promise_of(transport, item[:len(stores)], item[len(stores):]) == least
                and are_prices(transport, item[:len(stores)], item[len(stores):])
            )
            self.gives(next(found), first_prices, transport)
            told += 1
            many += next(found, None) is not None
        self.assertGreater(told, 60)
        self.assertGreater(many, 30)

    def test_first_prices_by_papers(self):
        told = 0
        for transport in [*some_transports(), *large_transports()]:
            stores, shops, costs = transport
            kinds, rows, numbers = rows_of(transport)
            least = reckon.least(kinds, rows, numbers)
            if least == reckon.NONE:
                continue
            told += 1
            many = len(stores) + len(shops)
            below = []
            for store, shop in product(range(len(stores)), range(len(shops))):
                row = [0] * many
                row[store], row[len(stores) + shop] = 1, -1
                below.append((tuple(row), ">=", -costs[store][shop]))
            below.append((tuple(-store for store in stores) + shops, "=", int(least)))
            first = tuple(top for top, low in reckon.first("+" * many, tuple(below)))
            self.gives((first[:len(stores)], first[len(stores):]), first_prices, transport)
            self.gives(int(least), promised, transport, first[:len(stores)], first[len(stores):])
        self.assertGreater(told, 100)

    def test_some(self):
        self.gives(((7,), (0,)), first_prices, NOTHING)
        self.gives(None, first_prices, SHORT)
        self.gives(((0, 0), (2, 2)), first_prices, EVEN)
        self.gives(((2, 5), (0, 0)), first_prices, PAID)
        # The stores' prices are least first, then the shops'.
        self.gives(((0,), (1, 0)), first_prices, ((2,), (1, 0), ((1, 2),)))


def some_squares():
    yield from (SQUARE, ((5,),), ((-3,),), ((0, 0), (0, 0)), ((7,) * 5,) * 5, ((1000, -1000), (-1000, 1000)))
    yield tuple(tuple((at * index) % 5 for at in range(5)) for index in range(5))
    yield tuple(tuple(-1 if at == index else 0 for at in range(4)) for index in range(4))
    chance = random.Random(93)
    for reach in (1, 3, 1000):
        for many in (1, 2, 2, 3, 3, 3, 4, 4, 4, 5, 5):
            for _ in range(4):
                yield tuple(tuple(chance.randint(-reach, reach) for _ in range(many)) for _ in range(many))


class PairingsTest(Case):
    def test_by_all_pairings(self):
        several = 0
        for table in some_squares():
            many = len(table)
            told = [told for told in product(range(many), repeat=many) if len(set(told)) == many]
            sums = [sum(row[at] for row, at in zip(table, item)) for item in told]
            least = min(sums)
            several += sums.count(least) > 1
            self.gives(least, least_pairing, table)
            self.gives(min(item for item, total in zip(told, sums) if total == least), first_pairing, table)
            self.gives(sums.count(least), count_pairings, table)
        self.assertGreater(several, 20)

    def test_pairing_task(self):
        for table in some_squares():
            if len(table) > 3:
                self.fails(BadTable, {}, pairing_task, table)
                continue
            self.gives(((1,) * len(table), (1,) * len(table), table), pairing_task, table)
            self.gives(least_pairing(table), least_transport, pairing_task(table))
            goods = first_table(pairing_task(table))
            self.assertEqual(sorted(goods), sorted(tuple(int(at == place) for at in range(len(table)))
                                                   for place in range(len(table))))

    def test_several(self):
        self.gives(120, count_pairings, ((7,) * 5,) * 5)
        self.gives((0, 1, 2, 3, 4), first_pairing, ((7,) * 5,) * 5)
        self.gives(35, least_pairing, ((7,) * 5,) * 5)
        self.gives(2, count_pairings, ((0, 0), (0, 0)))
        self.gives((0,), first_pairing, ((5,),))

    def test_not_square(self):
        for table in (((1, 2),), ((1,), (2,)), ((1, 2, 3), (4, 5, 6)), ((1, 2), (3, 4), (5, 6)), ((0,) * 5,) * 4):
            for function in (least_pairing, first_pairing, count_pairings, pairing_task):
                self.fails(BadTable, {}, function, table)
