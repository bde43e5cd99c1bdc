"""Wrong arguments: promise 1, and the errors that are named for each argument, for all functions but those of tasks."""

from costpapers import (
    changes, corners, errors, fits, form, games, glue, nets, other, sets, solve, texts, transports, wholes,
)
from tests.samples import FOOD, NO_RATIOS, STRANGERS, Case, put
from tests.wrong import (
    no_columns, no_counts_of, no_factors, no_frames, no_goods, no_indexes, no_lists_of, no_mark, no_marks, no_mixes,
    no_nets, no_numbers, no_orders, no_places, no_plans, no_rows, no_squares, no_tables, no_texts, no_transports,
    no_weights,
)

MILL = ("++", (-5, -4), (((6, 4), "<=", 24), ((1, 2), "<=", 6)))

# Kinds of arguments: one that is allowed, the error of those that are not, and these.
KINDS = {
    "task": (FOOD, "BadTask", no_frames),
    "plan": (((2, 1), (3, 1)), "BadPlan", no_plans),
    "weights": (((7, 5), (1, 5), (0, 1)), "BadPlan", no_weights),
    "index": (2, "BadNumber", lambda: no_indexes(FOOD)),
    "column": (1, "BadNumber", lambda: no_columns(FOOD)),
    "steps": ((1, 0, -1), "BadNumber", lambda: no_lists_of(3)),
    "prices": ((1, -1), "BadNumber", lambda: no_lists_of(2)),
    "time": ((1, 2), "BadNumber", lambda: NO_RATIOS),
    "numbers": ((1, -1), "BadRow", lambda: no_lists_of(2)),
    "row": (((1, 1), ">=", 5), "BadRow", no_rows),
    "table": (((3, -1), (-2, 1)), "BadTable", no_tables),
    "mix": (((1, 2), (1, 2)), "BadTable", no_mixes),
    "transport": (((3, 2), (2, 2), ((1, 4), (2, 1))), "BadTransport", no_transports),
    "goods": (((2, 0), (0, 2)), "BadTable", no_goods),
    "place": (1, "BadTransport", lambda: no_places(2)),
    "asked": ((1, 1), "BadTable", lambda: no_counts_of(2)),
    "square": (((1, 2), (3, 9)), "BadTable", no_squares),
    "net": ((4, ((0, 1, 3), (0, 2, 2), (1, 2, 1), (1, 3, 2), (2, 3, 4))), "BadNet", no_nets),
    "marks": (((0, 0), (1, 2), (2, 0)), "BadLists", no_marks),
    "mark": ((1, 1), "BadLists", no_mark),
    "amounts": ((5, 1, 9, 3), "BadLists", no_numbers),
    "bounded": (MILL, "BadTask", no_frames),
    "columns": ((1, 0), "BadOrder", lambda: no_orders(2)),
    "rows": ((2, 0, 1), "BadOrder", lambda: no_orders(3)),
    "factors": ((1, 2, 3), "BadNumber", lambda: no_factors(3)),
    "shifts": ((0, 0), "BadNumber", lambda: no_lists_of(2)),
    "text": ("a>=1", "NotText", no_texts),
    "whole text": ("a: a", "NotText", no_texts),
}

# Functions, their arguments, and the errors behind those of all arguments.
FUNCTIONS = (
    (solve.ending, ("task",), ()),
    (solve.best_cost, ("task",), ()),
    (solve.some_plan, ("task",), ()),
    (solve.is_paper, ("task", "weights"), ()),
    (solve.promise, ("task", "weights"), ()),
    (solve.some_paper, ("task",), ("NotBest",)),
    (solve.shows_best, ("task", "plan", "weights"), ()),
    (solve.is_reason, ("task", "weights"), ()),
    (solve.is_way, ("task", "plan"), ()),
    (solve.some_reason, ("task",), ()),
    (solve.some_way, ("task",), ()),
    (other.other_side, ("task",), ("NoOther",)),
    (other.endings, ("task",), ()),
    (other.first_plan, ("task",), ("NotBest",)),
    (other.first_paper, ("task",), ("NotBest",)),
    (other.is_one_plan, ("task",), ("NotBest",)),
    (other.is_one_paper, ("task",), ("NotBest",)),
    (other.best_range, ("task", "column"), ("NotBest",)),
    (other.paper_range, ("task", "index"), ("NotBest",)),
    (other.live_columns, ("task",), ("NotBest",)),
    (other.dear_columns, ("task",), ("NotBest",)),
    (other.loose_rows, ("task",), ("NotBest",)),
    (other.paid_rows, ("task",), ("NotBest",)),
    (other.fits_together, ("task", "plan", "weights"), ()),
    (changes.cost_after, ("task", "steps", "time"), ()),
    (changes.right_pieces, ("task", "steps"), ()),
    (changes.cost_pieces, ("task", "prices"), ()),
    (changes.worth_of_row, ("task", "index"), ()),
    (changes.same_until, ("task", "column"), ()),
    (sets.has_plan, ("task",), ()),
    (sets.always_tight, ("task",), ("NoPlan",)),
    (sets.always_zero, ("task",), ("NoPlan",)),
    (sets.dimension, ("task",), ("NoPlan",)),
    (sets.is_bounded, ("task",), ("NoPlan",)),
    (sets.span, ("task", "numbers"), ("NoPlan",)),
    (sets.slack_span, ("task", "index"), ("NoPlan",)),
    (sets.far_most, ("task",), ("NoPlan",)),
    (sets.follows, ("task", "row"), ("NoPlan",)),
    (sets.some_follow, ("task", "row"), ("NoPlan",)),
    (sets.shows_follows, ("task", "row", "weights"), ()),
    (sets.needless, ("task",), ("NoPlan",)),
    (sets.thinned, ("task",), ("NoPlan",)),
    (sets.is_within, ("task", "task"), ()),
    (sets.same_set, ("task", "task"), ()),
    (corners.is_corner, ("task", "plan"), ()),
    (corners.corners, ("task",), ("NoPlan",)),
    (corners.lines, ("task",), ("NoPlan",)),
    (corners.base_points, ("task",), ("NoPlan",)),
    (corners.ways, ("task",), ("NoPlan",)),
    (corners.best_corners, ("task",), ("NoPlan",)),
    (corners.faces, ("task",), ("NoPlan",)),
    (corners.is_mixed, ("task", "plan"), ("NoPlan",)),
    (corners.some_mix, ("task", "plan"), ("NoPlan",)),
    (form.form, ("task",), ("NoPlan",)),
    (games.surely, ("table", "mix"), ()),
    (games.value, ("table",), ()),
    (games.game_task, ("table",), ()),
    (games.shows_value, ("table", "mix", "mix"), ()),
    (games.first_mix, ("table",), ()),
    (games.first_column_mix, ("table",), ()),
    (games.best_mixes, ("table",), ()),
    (games.is_one_mix, ("table",), ()),
    (games.used_rows, ("table",), ()),
    (games.good_answers, ("table",), ()),
    (games.saddles, ("table",), ()),
    (games.safe_row, ("table",), ()),
    (games.two_by_two, ("table",), ()),
    (games.is_even, ("table",), ()),
    (transports.table_cost, ("transport", "goods"), ()),
    (transports.transport_task, ("transport",), ()),
    (transports.least_transport, ("transport",), ()),
    (transports.first_table, ("transport",), ()),
    (transports.is_one_table, ("transport",), ("NotBest",)),
    (transports.goods_range, ("transport", "place", "place"), ("NotBest",)),
    (transports.promised, ("transport", "asked", "asked"), ()),
    (transports.first_prices, ("transport",), ()),
    (transports.least_pairing, ("square",), ()),
    (transports.first_pairing, ("square",), ()),
    (transports.count_pairings, ("square",), ()),
    (transports.pairing_task, ("square",), ()),
    (nets.most_flow, ("net",), ()),
    (nets.first_flow, ("net",), ()),
    (nets.least_cut, ("net",), ()),
    (nets.count_cuts, ("net",), ()),
    (nets.narrow_arcs, ("net",), ()),
    (nets.shortest, ("net",), ("NoWay",)),
    (nets.heights, ("net",), ()),
    (fits.least_worst, ("marks",), ()),
    (fits.first_line, ("marks",), ()),
    (fits.is_one_line, ("marks",), ()),
    (fits.least_sum, ("marks",), ()),
    (fits.middles, ("amounts",), ()),
    (fits.are_parted, ("marks", "marks"), ()),
    (fits.some_parting, ("marks", "marks"), ()),
    (fits.some_common, ("marks", "marks"), ()),
    (fits.is_in_hull, ("marks", "mark"), ()),
    (fits.outer_marks, ("marks",), ()),
    (wholes.best_whole, ("bounded",), ("NoPlan", "NotBounded")),
    (wholes.gap, ("bounded",), ("NoPlan", "NotBounded")),
    (wholes.whole_plans, ("bounded",), ("NoPlan", "NotBounded")),
    (wholes.count_whole, ("bounded",), ("NoPlan", "NotBounded")),
    (wholes.is_whole, ("task",), ()),
    (wholes.is_plainly_whole, ("task",), ()),
    (wholes.full_rank, ("task",), ()),
    (glue.moved, ("task", "columns", "rows"), ()),
    (glue.beside, ("task", "task"), ()),
    (glue.times_rows, ("task", "factors"), ()),
    (glue.split, ("task",), ()),
    (glue.with_slacks, ("task",), ()),
    (glue.as_rows, ("task",), ()),
    (glue.shifted, ("task", "shifts"), ()),
    (texts.write, ("task",), ()),
    (texts.write_row, ("task", "row"), ()),
    (texts.write_plan, ("task", "plan"), ()),
    (texts.read, ("whole text",), ()),
    (texts.read_row, ("task", "text"), ()),
)
# Those whose first argument is a task.
ON_TASKS = tuple(told for told in FUNCTIONS if KINDS[told[1][0]][1] == "BadTask")

# Tasks of two columns and three rows with the errors that they have.
ENDLESS = ("++", (-2, 3), FOOD[2][:2] + (((1, 0), ">=", 6),))
EMPTY = ("++", (2, 3), FOOD[2][:2] + (((1, 0), "<=", -6),))
# Tasks, transports and nets with the errors that they have.
LATE = {
    ("task", "NotBest"): (ENDLESS, EMPTY),
    ("task", "NoPlan"): (EMPTY,),
    ("task", "NoOther"): (("++", (2, 3), ()), ("++", (2, 3), FOOD[2] * 2 + FOOD[2][:1])),
    ("transport", "NotBest"): (((1, 0), (2, 0), ((1, 4), (2, 1))),),
    ("bounded", "NoPlan"): (EMPTY, ("*", (0,), (((0,), "=", 1),))),
    ("bounded", "NotBounded"): (FOOD, ENDLESS, ("*", (0,), ())),
    ("net", "NoWay"): ((2, ((1, 0, 1),)),),
}


def good(kinds):
    return [KINDS[kind][0] for kind in kinds]


def error_of(kind):
    """The error of a value that is not of a kind, and its fields."""
    name = KINDS[kind][1]
    return getattr(errors, name), {"index": None} if name == "BadTask" else {}


class WrongArgumentsTest(Case):
    def test_good_ones(self):
        for function, kinds, _ in FUNCTIONS:
            self.gives(function(*good(kinds)), function, *good(kinds))

    def test_one_wrong(self):
        for function, kinds, _ in FUNCTIONS:
            for at, kind in enumerate(kinds):
                for value in KINDS[kind][2]():
                    args = good(kinds)
                    args[at] = value
                    self.fails(*error_of(kind), function, *args)

    def test_wrong_rows(self):
        for function, kinds, _ in ON_TASKS:
            for at, row in enumerate(no_rows()):
                task = put(FOOD, (2, at % 3), row)
                self.fails(errors.BadTask, {"index": at % 3}, function, task, *good(kinds)[1:])

    def test_the_leftmost_wrong_one_is_told(self):
        for function, kinds, _ in FUNCTIONS:
            for first in range(len(kinds)):
                for value in STRANGERS:
                    args = good(kinds)[:first] + [{"an": "odd one"}] + [value] * (len(kinds) - first - 1)
                    self.fails(*error_of(kinds[first]), function, *args)

    def test_other_errors(self):
        for function, kinds, late in FUNCTIONS:
            for name in late:
                for value in LATE[kinds[0], name]:
                    self.fails(getattr(errors, name), {}, function, value, *good(kinds)[1:])

    def test_other_errors_come_behind(self):
        for function, kinds, _ in ON_TASKS:
            for task in (ENDLESS, EMPTY):
                for at in range(1, len(kinds)):
                    for value in (None, 7, [], {}, True, (True, 1), 1001):
                        args = [task] + good(kinds)[1:]
                        args[at] = value
                        self.fails(*error_of(kinds[at]), function, *args)
