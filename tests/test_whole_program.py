"""What is promised of the whole program: promise 1."""

import copy
import importlib
import random

from costpapers import corners, games, wholes
from costpapers.errors import PlanError
from costpapers.sheets import Sheet
from tests.samples import BARE, BROAD, FOOD, FULL, LIMITS, MIXED, NO_RATIOS, STRANGERS, Case, shape, told
from tests.test_interface import listed
from tests.test_wrong import EMPTY, ENDLESS, KINDS, MILL

SQUARE = ("++", (1, -1), (((1, 0), "<=", 1), ((0, 1), "<=", 1)))
GOODS = ((3, 2), (2, 2), ((1, 4), (2, 1)))
NET = (4, ((0, 1, 3), (0, 2, 2), (1, 2, 1), (1, 3, 2), (2, 3, 4)))
# Values that are allowed for some argument, others that are not, and lists and dicts of all of them.
VALUES = (
    *STRANGERS, *NO_RATIOS, *(kind[0] for kind in KINDS.values()),
    FOOD, MIXED, BARE, LIMITS, FULL, BROAD, EMPTY, ENDLESS, MILL, SQUARE, GOODS, NET,
    list(FOOD), [FOOD], {0: FOOD}, {"task": GOODS}, [NET, None], ((0, 1), (1, 1)), (((0, 1), (1, 1)), ()), ((1, 0), (0, 1)),
    "a: a", "a: 1a", "a=1", "+", "*", ">=", "=", 2, 3, 1000, -1000, 10 ** 100, (1, 2), (0, 1), (1, 0), (-1, 2), (0, 0),
    ((0, 0), (1, 1)), (((0, 1), (0, 1)), ((1, 1), (0, 1))), ((1, 2, 3), (4, 5, 6), (7, 8, 9)),
)
LISTS = (
    (corners.corners, (SQUARE,)), (corners.base_points, (SQUARE,)), (corners.lines, (("**", (0, 0), (((1, 1), ">=", 0),)),)),
    (corners.ways, (FOOD,)), (corners.neighbors, (SQUARE, ((0, 1), (0, 1)))), (corners.best_corners, (SQUARE,)),
    (corners.edge_ways, (FOOD, ((6, 1), (1, 1)))), (games.best_mixes, (((4, 4), (4, 4)),)), (wholes.whole_plans, (SQUARE,)),
)


def functions():
    """All functions of the interface, and how many arguments they take."""
    for module, name, parameters in listed():
        yield getattr(importlib.import_module(module), name), len(parameters)


class AnyValueTest(Case):
    def looks_at(self, function, args):
        """A call gives an answer or an error of the package, twice the same one, and changes no argument."""
        outcomes = []
        for _ in range(2):
            try:
                outcomes.append(shape(self.called(function, copy.deepcopy(args))))
            except PlanError as error:
                outcomes.append((type(error), vars(error)))
            except Exception as error:
                self.fail(f"{told(function, args)} raised {error!r}")
        self.assertTrue(outcomes[0] == outcomes[1], told(function, args))
        return type(outcomes[0][0]) is type and issubclass(outcomes[0][0], PlanError)

    def test_any_value_for_any_argument(self):
        chance, wrong, right = random.Random(161), 0, 0
        for function, many in functions():
            good = [kind[0] for kind in KINDS.values()]
            for _ in range(150):
                args = tuple(chance.choice(chance.choice((VALUES, good))) for _ in range(many))
                failed = self.looks_at(function, args)
                wrong += failed
                right += not failed
        self.assertGreater(wrong, 5000)
        self.assertGreater(right, 500)

    def test_any_value_beside_a_task(self):
        chance = random.Random(162)
        for function, many in functions():
            for task in (FOOD, SQUARE, MILL, EMPTY, BARE):
                for _ in range(12 if many > 1 else 1):
                    self.looks_at(function, (task, *(chance.choice(VALUES) for _ in range(many - 1))))

    def test_any_value_for_a_sheet(self):
        for value in VALUES:
            self.looks_at(lambda *args: Sheet(*args).run(), (value,))


class NewListsTest(Case):
    def test_lists_are_new(self):
        for function, args in LISTS:
            first, second = function(*args), function(*args)
            self.assertIs(type(first), list)
            self.assertTrue(first, function.__name__)
            self.assertIsNot(first, second)
            kept = list(second)
            first.clear()
            first.append(None)
            self.assertEqual(second, kept)
            self.gives(kept, function, *args)

    def test_nothing_else_is_a_list(self):
        for function, many in functions():
            if function.__name__ not in {told.__name__ for told, _ in LISTS}:
                for task in (SQUARE, MILL, GOODS, NET, ((1, 2), (3, 9)), ((0, 0), (1, 2))):
                    try:
                        answer = function(task, *((0, 1),) * (many - 1)) if many else function()
                    except PlanError:
                        continue
                    self.assertFalse(self.has_list(answer), function.__name__)

    def has_list(self, value):
        return isinstance(value, (list, dict)) or isinstance(value, tuple) and any(self.has_list(item) for item in value)
