"""The interface: each name is defined in its own file, with its arguments."""

import ast
import inspect
import unittest

from cutnotes import (
    bars, budgets, counting, errors, floors, forests, notes, plans, points, prices, reaching, reading, rowwise,
    stores, strangers, tables, texts, unders, vaults, weaving)

LISTED = {
    forests: {"Forest": "parents bearing asking", "way": "forest place", "under": "forest place",
              "pairs": "forest", "row": "places", "is_row": "thing"},
    notes: {"is_keeper": "forest thing", "is_single": "forest thing", "lacking": "forest notes",
            "twice": "forest notes", "point": "forest notes"},
    plans: {"is_plan": "forest thing", "plan_of": "forest cuts", "cuts_of": "forest plan",
            "stack": "forest plan place", "notes_of": "forest plan"},
    counting: {"count_plans": "forest", "plan_number": "forest plan", "plan_at": "forest number",
               "all_plans": "forest"},
    unders: {"high": "forest notes", "low": "forest notes", "under_keeper": "forest notes",
             "is_under": "forest notes thing"},
    budgets: {"plan_within": "forest budgets"},
    reaching: {"reaches": "forest budgets", "is_reaches": "forest budgets thing"},
    bars: {"bar": "forest budgets", "is_bar": "forest budgets thing"},
    prices: {"price_of": "forest prices notes", "least_price": "forest prices", "count_cheapest": "forest prices",
             "cheapest": "forest prices", "cheapest_keeping": "forest prices notes", "corners": "forest prices"},
    floors: {"floor": "forest prices", "is_floor": "forest prices thing", "borne": "forest prices thing"},
    points: {"least_points": "forest", "beaten": "forest notes"},
    rowwise: {"weights": "forest notes", "is_unbeatable": "forest notes", "longest_row": "touches reads",
              "plan_by_reads": "forest reads", "plan_by_touches": "forest touches"},
    tables: {"is_table": "thing", "crossing": "table", "forest_of": "table"},
    strangers: {"told_notes": "forest touching reading", "wrong_pair": "forest touching reading"},
    stores: {"Store": "forest plan amounts adding"},
    vaults: {"Medium": "", "Vault": "medium forest plan adding", "begun": "medium forest plan amounts adding",
             "seen": "forest plan place many"},
    weaving: {"is_history": "forest thing", "wrong_answer": "forest amounts adding history",
              "woven": "forest plan amounts adding deeds turns"},
    texts: {"forest_text": "forest", "plan_text": "forest plan", "notes_text": "forest notes"},
    reading: {"read_forest": "text", "read_plan": "forest text", "read_notes": "forest text"},
    errors: {"NoteError": None, "BadForest": "part at", "TooMany": "most", "NoAnswer": "place",
             "BadText": "line", "NoPlace": "", "Stopped": ""},
}

# Of each class the methods, which stand in itself, with their arguments.
METHODS = {
    stores.Store: {
        "change": "place amount", "change_all": "changes", "ask": "place", "amount": "place", "kept": "",
        "touched": "", "asked": "", "watch": "place", "unwatch": "place", "watched": "", "news": "", "forest": "",
        "plan": "", "hang": "parent level asks amounts", "turn": "forest plan amounts", "mark": "",
        "ask_at": "mark place", "back_to": "mark", "drop": "mark", "marks": "", "held": "", "copy": "",
        "trying": "action"},
    vaults.Medium: {"cells": "", "write": "cell thing", "power": "writes", "written": ""},
    vaults.Vault: {"change_all": "changes", "recover": "", "ask": "place"},
}


class Interface(unittest.TestCase):

    def test_each_name_is_defined_in_its_file(self):
        for module, names in LISTED.items():
            with open(module.__file__, encoding="utf-8") as file:
                tree = ast.parse(file.read())
            defined = {node.name for node in tree.body if isinstance(node, (ast.FunctionDef, ast.ClassDef))}
            self.assertLessEqual(set(names), defined)

    def test_arguments_by_position(self):
        for module, names in LISTED.items():
            for name, parameters in names.items():
                if parameters is not None:
                    found = inspect.signature(getattr(module, name)).parameters
                    self.assertEqual(" ".join(found), parameters, name)

    def test_methods_stand_in_their_classes(self):
        for owner, methods in METHODS.items():
            for name, parameters in methods.items():
                found = inspect.signature(vars(owner)[name]).parameters
                self.assertEqual(" ".join(found), ("self " + parameters).strip(), name)

    def test_equality_stands_in_forest_itself(self):
        self.assertIn("__eq__", vars(forests.Forest))
        self.assertIn("__init__", vars(forests.Forest))


if __name__ == "__main__":
    unittest.main()
