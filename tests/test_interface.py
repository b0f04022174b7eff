"""The names of the interface: where they are defined, and what they take."""

import ast
import importlib
import inspect
import unittest

# For each module, the functions and classes with their parameters; "*" stands before those passed by keyword.
FUNCTIONS = {
    "cutbehind.base.signs": {"is_integer": "value", "is_sign": "value", "is_text": "value", "is_piece": "value"},
    "cutbehind.base.books": {"Book": "prices"},
    "cutbehind.base.compared": {
        "is_nowhere_dearer": "book other", "dearer_piece": "book other", "are_as_cheap": "book other",
        "needless": "book", "least_book": "book",
    },
    "cutbehind.cuts.cuts": {
        "is_cut": "book text value", "price_of": "book value", "cheapest_price": "book text", "cheapest": "book text",
        "cuts": "book text", "cheapest_cuts": "book text", "count_cuts": "book text", "count_cheapest": "book text",
        "loss": "book text piece", "harmless": "book text",
    },
    "cutbehind.cuts.cutters": {"Cutter": "book order * view table ends"},
    "cutbehind.fronts.fronts": {"front_of": "book text", "next_front": "book front sign", "Fronts": "book"},
    "cutbehind.text.texts": {
        "write_book": "book", "write_cutter": "cutter", "read_book": "text", "read_cutter": "text",
    },
    "cutbehind.stands.stands": {
        "stand_of": "cutter text", "spent": "cutter text", "next_stand": "cutter stand sign",
        "end_price": "cutter stand", "behind_along": "cutter text", "Stands": "cutter",
    },
    "cutbehind.bounds.excess": {
        "excess_paper": "cutter", "is_excess_paper": "cutter value", "greatest_excess": "cutter",
        "is_never_behind": "cutter", "worst_text": "cutter",
    },
    "cutbehind.bounds.fractions": {
        "fraction_of": "cutter", "fraction_paper": "cutter", "is_fraction_paper": "cutter value",
        "is_within_fraction": "cutter fraction",
    },
    "cutbehind.view.safe": {
        "is_safe": "book text piece", "against": "book text piece", "safe_pieces": "book text",
        "beside_of": "book text piece", "next_beside": "book beside sign", "safe_paper": "book text piece",
        "is_safe_paper": "book text piece value",
    },
    "cutbehind.view.least": {
        "minimal_windows": "book", "least_view": "book", "view_paper": "book", "is_view_paper": "book value",
        "cutter_by": "book paper",
    },
    "cutbehind.pairs.races": {"Race": "one other"},
    "cutbehind.pairs.edits": {
        "boundaries": "cutter text", "common_boundary": "cutter old new rest", "recut": "cutter text start stop signs",
        "meets_within": "cutter", "meeting_paper": "cutter", "is_meeting_paper": "cutter value",
    },
    "cutbehind.menus.menus": {"Menu": "cutter pieces"},
    "cutbehind.bounds.lengths": {
        "worst_by_length": "cutter many", "worst_of_length": "cutter many", "count_worst": "cutter many",
        "all_worst": "cutter many", "is_worst": "cutter value",
    },
    "cutbehind.live.feeders": {"Feeder": "cutter", "SafeFeeder": "book"},
    "cutbehind.live.shelf": {
        "Shelf": "cutter * texts", "Guard": "most", "GuardedShelf": "cutter * most texts",
    },
    "cutbehind.text.shell": {"Shell": "text"},
}
METHODS = {
    ("cutbehind.base.books", "Book"): {
        "of": "pairs", "accepts": "value", "starting": "text", "with_price": "piece price", "__getitem__": None,
        "__contains__": None, "__iter__": "", "__len__": "", "__eq__": None, "__str__": "", "__or__": None,
        "__and__": None, "__sub__": None,
    },
    ("cutbehind.cuts.cutters", "Cutter"): {
        "longest_first": "book", "shortest_first": "book", "tell": "window * ended", "cut": "text", "__call__": "text",
        "price": "text", "behind": "text", "losses": "text", "with_table": "table ends", "with_order": "order",
        "with_view": "view", "__eq__": None, "__str__": "",
    },
    ("cutbehind.fronts.fronts", "Fronts"): {
        "layer": "many", "__iter__": "", "__len__": "", "__contains__": None, "__getitem__": None,
    },
    ("cutbehind.stands.stands", "Stands"): {
        "__iter__": "", "__len__": "", "__contains__": None, "__getitem__": None,
    },
    ("cutbehind.pairs.races", "Race"): {
        "turned": "", "__getitem__": None, "__contains__": None, "__len__": "", "__eq__": None, "__str__": "",
        "lead": "text", "greatest": "", "fraction": "", "first_lead": "", "paper": "", "rate_paper": "",
        "is_paper": "value", "is_rate_paper": "value",
    },
    ("cutbehind.menus.menus", "Menu"): {
        "parts": "", "cutter_with": "part", "is_good": "part", "reason": "part", "good": "", "least": "",
        "spoilers": "", "paper": "", "is_paper": "value", "__contains__": None, "__len__": "", "__iter__": "",
        "__eq__": None, "__str__": "",
    },
    ("cutbehind.live.feeders", "Feeder"): {
        "feed": "signs", "__iadd__": None, "end": "", "behind": "", "__len__": "", "__iter__": "", "__getitem__": None,
        "__bool__": "", "__eq__": None, "__str__": "", "undo": "* many", "trial": "", "during": "call", "twin": "",
    },
    ("cutbehind.live.shelf", "Shelf"): {
        "__setitem__": None, "put": "name text", "drop": "name", "edit": "name start stop signs", "__getitem__": None,
        "cut": "name", "price": "name", "behind": "name", "__contains__": None, "__len__": "", "__iter__": "",
        "__eq__": None, "__str__": "", "watch": "call", "unwatch": "call", "undo": "* many", "redo": "* many",
        "group": "", "together": "call",
    },
    ("cutbehind.live.shelf", "Guard"): {"allows": "cutter text", "is_needless": "cutter most"},
    ("cutbehind.text.shell", "Shell"): {"shelf": "", "__call__": "line", "run": "line"},
}
PROPERTIES = {
    ("cutbehind.base.books", "Book"): "prices pieces alphabet longest dearest",
    ("cutbehind.cuts.cutters", "Cutter"): "book order view table ends",
    ("cutbehind.fronts.fronts", "Fronts"): "rows spread",
    ("cutbehind.stands.stands", "Stands"): "rows first",
    ("cutbehind.pairs.races", "Race"): "one other pairs",
    ("cutbehind.menus.menus", "Menu"): "cutter pieces",
    ("cutbehind.live.feeders", "Feeder"): "told waiting text spent is_ended source",
    ("cutbehind.live.shelf", "Shelf"): "cutter names texts total lag",
    ("cutbehind.live.shelf", "Guard"): "most",
}
CONSTANTS = {
    "cutbehind.base.books": {
        "MAX_SIGNS": 8000, "MAX_LENGTH": 5, "MAX_PIECES": 12, "MAX_ALPHABET": 4, "MAX_PRICE": 99,
    },
    "cutbehind.cuts.cuts": {"MAX_CUTS": 2000},
    "cutbehind.cuts.cutters": {"MAX_VIEW": 2000, "MAX_WINDOWS": 2000},
    "cutbehind.fronts.fronts": {"MAX_FRONTS": 2000},
    "cutbehind.stands.stands": {"MAX_STANDS": 2000},
    "cutbehind.view.safe": {"MAX_BESIDES": 2000},
    "cutbehind.view.least": {"MAX_FANS": 2000, "MAX_MINIMAL": 2000},
    "cutbehind.pairs.races": {"MAX_PAIRS": 2000},
    "cutbehind.pairs.edits": {"MAX_WAITING": 121},
    "cutbehind.menus.menus": {"MAX_MENU": 6},
    "cutbehind.bounds.lengths": {"MAX_LENGTHS": 400},
    "cutbehind.live.feeders": {"MAX_FED": 8000},
    "cutbehind.live.shelf": {"MAX_TEXTS": 50},
}


def parameters(callable_value):
    """The names of the parameters, with "*" before those that are passed by keyword."""
    names = []
    for name, parameter in inspect.signature(callable_value).parameters.items():
        if parameter.kind is parameter.KEYWORD_ONLY and "*" not in names:
            names.append("*")
        names.append(name)
    return " ".join(names)


class Interface(unittest.TestCase):
    def test_each_name_is_defined_in_its_file(self):
        for path, names in FUNCTIONS.items():
            module = importlib.import_module(path)
            tree = ast.parse(inspect.getsource(module))
            defined = [node.name for node in tree.body if isinstance(node, (ast.FunctionDef, ast.ClassDef))]
            for name, expected in names.items():
                self.assertIn(name, defined)
                self.assertEqual(parameters(getattr(module, name)), expected, name)

    def test_each_method_is_defined_in_its_class(self):
        for (path, name), methods in METHODS.items():
            found = getattr(importlib.import_module(path), name)
            for method, expected in methods.items():
                self.assertIn(method, vars(found))
                if expected is not None:
                    taken = parameters(getattr(found, method)).replace("self", "", 1).strip()
                    self.assertEqual(taken, expected, method)

    def test_properties(self):
        for (path, name), properties in PROPERTIES.items():
            found = getattr(importlib.import_module(path), name)
            for word in properties.split():
                self.assertIsInstance(vars(found)[word], property)

    def test_constants(self):
        for path, constants in CONSTANTS.items():
            module = importlib.import_module(path)
            self.assertEqual({name: getattr(module, name) for name in constants}, constants)
