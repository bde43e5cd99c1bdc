"""The names of the interface: where they are defined, and their arguments."""

import importlib
import inspect
import unittest
from pathlib import Path

import costpapers

FUNCTIONS = {
    "ratios": "plus(one, other) times(one, other) over(one, other) compare(one, other)",
    "tasks": """size(task) is_plan(task, plan) cost(task, plan) tight(task, plan) broken(task, plan) plain(task)
        negated(task) with_row(task, row) without_row(task, index)""",
    "solve": """ending(task) best_cost(task) some_plan(task) is_paper(task, paper) shows_best(task, plan, paper)
        promise(task, paper) some_paper(task) is_reason(task, paper) is_way(task, way) some_reason(task)
        some_way(task)""",
    "other": """other_side(task) endings(task) first_plan(task) first_paper(task) is_one_plan(task) is_one_paper(task)
        best_range(task, column) paper_range(task, index) live_columns(task) dear_columns(task) loose_rows(task)
        paid_rows(task) fits_together(task, plan, paper)""",
    "changes": """cost_after(task, steps, time) right_pieces(task, steps) cost_pieces(task, steps)
        worth_of_row(task, index) same_until(task, column)""",
    "sets": """has_plan(task) is_bounded(task) always_tight(task) always_zero(task) dimension(task) span(task, numbers)
        slack_span(task, index) far_most(task) follows(task, row) shows_follows(task, row, paper)
        is_within(one, other) same_set(one, other) some_follow(task, row) needless(task) thinned(task)""",
    "corners": """is_corner(task, plan) corners(task) base_points(task) lines(task) ways(task) neighbors(task, plan)
        best_corners(task) edge_ways(task, plan) faces(task) is_mixed(task, plan) shows_mix(task, plan, value)
        some_mix(task, plan)""",
    "form": "form(task) hull(many, points, directions) shadow(task, columns)",
    "games": """surely(table, mix) value(table) two_by_two(table) game_task(table) shows_value(table, mix, other)
        is_one_mix(table) is_even(table) first_mix(table) first_column_mix(table) best_mixes(table) used_rows(table)
        good_answers(table) saddles(table) safe_row(table)""",
    "transports": """is_table(transport, value) is_one_table(transport) table_cost(transport, value)
        transport_task(transport) least_transport(transport) first_table(transport) goods_range(transport, store, shop)
        shows_prices(transport, prices, others) promised(transport, prices, others) least_pairing(table)
        count_pairings(table) first_prices(transport) first_pairing(table) pairing_task(table)""",
    "nets": """is_flow(net, value) most_flow(net) count_cuts(net) shortest(net) first_flow(net) least_cut(net)
        narrow_arcs(net) heights(net)""",
    "fits": """least_worst(marks) least_sum(marks) first_line(marks) is_one_line(marks) middles(numbers)
        are_parted(marks, others) is_in_hull(marks, mark) some_parting(marks, others) some_common(marks, others)
        outer_marks(marks)""",
    "wholes": """best_whole(task) gap(task) whole_plans(task) count_whole(task) full_rank(task) is_whole(task)
        is_plainly_whole(task)""",
    "glue": """moved(task, columns, rows) beside(one, other) times_rows(task, numbers) split(task) with_slacks(task)
        as_rows(task) shifted(task, steps)""",
    "texts": "write(task) write_row(task, row) write_plan(task, plan) read(text) read_row(task, text)",
}
METHODS = {
    "__init__": ["self", "task"], "left_costs": ["self"], "entering": ["self"], "leaving": ["self", "column"],
    "step": ["self", "column", "other"], "undo": ["self"], "is_best": ["self"], "is_endless": ["self"], "run": ["self"],
}
PROPERTIES = ("base", "plan", "cost", "steps")


def listed():
    """Each module, and its functions with their arguments, as the document lists them."""
    for module, text in FUNCTIONS.items():
        for told in text.replace("\n", " ").split(")"):
            if told.strip():
                name, parameters = told.strip().split("(")
                yield f"costpapers.{module}", name, parameters.split(", ")


class InterfaceTest(unittest.TestCase):
    def test_functions(self):
        for module, name, parameters in listed():
            function = getattr(importlib.import_module(module), name)
            self.assertTrue(inspect.isfunction(function), name)
            self.assertEqual(function.__module__, module, name)
            self.assertEqual(list(inspect.signature(function).parameters), parameters, name)

    def test_sheet(self):
        sheet = importlib.import_module("costpapers.sheets").Sheet
        self.assertTrue(inspect.isclass(sheet))
        self.assertEqual((sheet.__module__, sheet.__bases__), ("costpapers.sheets", (object,)))
        for name, parameters in METHODS.items():
            # Each method stands in the class itself.
            self.assertEqual(list(inspect.signature(vars(sheet)[name]).parameters), parameters, name)
        for name in PROPERTIES:
            self.assertIsInstance(vars(sheet)[name], property, name)

    def test_all_modules_are_told(self):
        modules = {path.stem for path in Path(costpapers.__file__).parent.glob("*.py")}
        self.assertEqual(modules, {"__init__", "checks", "errors", "sheets", *FUNCTIONS})
