"""The names of the interface stand in their files, with the arguments and defaults told."""

import importlib
import inspect
import unittest

SIGNATURES = {
    "hueshade.numbers": {
        "fraction": "(top, bottom=1)",
        "plus": "(one, other)",
        "less": "(one, other)",
        "times": "(one, other)",
        "middle": "(one, other)",
        "order": "(one, other)",
        "fraction_text": "(one)",
    },
    "hueshade.lights": {
        "sifted": "(light, sift)",
        "summed": "(lights)",
        "both_sifts": "(one, other)",
    },
    "hueshade.figures": {
        "side": "(one, other, place)",
        "on_piece": "(place, piece)",
        "pieces_meet": "(one, other)",
        "block_meets": "(block, piece)",
        "piece_shares": "(other, piece)",
        "block_shares": "(block, piece)",
    },
    "hueshade.edges": {
        "block_shade": "(place, block, line)",
        "piece_shade": "(place, piece, line)",
    },
    "hueshade.menus": {
        "how_many": "(counts)",
        "all_rows": "(counts, *, most=200)",
        "row_number": "(counts, row)",
        "row_at": "(counts, number)",
    },
    "hueshade.plans": {
        "seen": "(house, view, setting)",
        "plan": "(house, views)",
        "plan_paper": "(house, views, *, looks=0)",
        "depth": "(told)",
    },
    "hueshade.parting": {
        "parting": "(one, other, things, places)",
    },
    "hueshade.wishes": {
        "wish": "(house, menu, wants, *, most=8)",
        "wish_paper": "(house, menu, wants, *, most=0)",
    },
    "hueshade.texts": {
        "deed_text": "(deed)",
        "read_deed": "(text)",
    },
    "hueshade.pages": {
        "page": "(house)",
        "read_page": "(text)",
    },
}

METHODS = {
    ("hueshade.house", "House"): {
        "do": "(self, deed)",
        "lamp": "(self, across, up, *, light=(9, 9, 9))",
        "unsure": "(self, choices)",
        "post": "(self, left, low, right=None, high=None)",
        "pane": "(self, one, other, *, sift='')",
        "move": "(self, sort, number, *, right=0, up=0)",
        "switch": "(self, number)",
        "drop": "(self, sort, number)",
        "look": "(self, across, up, light)",
        "strike": "(self, number)",
        "settle": "(self, number, at=0)",
        "many": "(self, deeds)",
        "trial": "(self, deeds)",
        "undo": "(self)",
        "redo": "(self)",
        "deeds": "(self)",
        "busy": "(self)",
        "lamps": "(self)",
        "posts": "(self)",
        "panes": "(self)",
        "looks": "(self)",
        "floor_of": "(self, number)",
        "coming": "(self, sort)",
        "settings": "(self)",
        "fits": "(self)",
        "clash": "(self)",
        "left": "(self, number)",
        "light": "(self, across, up, *, setting=None)",
        "reasons": "(self, across, up, *, setting=None)",
        "lights": "(self, across, up)",
        "along": "(self, one, other, *, setting=None)",
        "share_light": "(self, one, other, share, *, setting=None)",
        "twin": "(self)",
        "__init__": "(self)",
        "__eq__": "(self, other)",
        "__len__": "(self)",
        "__repr__": "(self)",
        "__str__": "(self)",
    },
    ("hueshade.desk", "Desk"): {
        "__init__": "(self, house=None)",
        "house": "(self)",
        "say": "(self, line)",
        "__len__": "(self)",
    },
}

VALUES = {
    "hueshade.numbers": {"FAR": 1000000},
    "hueshade.lights": {
        "BRIGHT": 1000000, "SIFTS": ("", "r", "g", "b", "rg", "rb", "gb", "rgb"), "DARK": (0, 0, 0),
    },
    "hueshade.menus": {"MOST_SETTINGS": 200},
    "hueshade.stands": {"MOST_THINGS": 12, "MOST_LOOKS": 24, "SORTS": ("lamp", "post", "pane")},
    "hueshade.house": {"WHITE": (9, 9, 9)},
    "hueshade.plans": {"MOST_VIEWS": 8, "MOST_FITS": 24},
    "hueshade.parting": {"MOST_MOVES": 200},
    "hueshade.wishes": {"MOST_WISH": 8},
}

CLASSES = {
    "hueshade.errors": (
        "ShadeError", "BadPlace", "BadLight", "BadSift", "BadBlock", "BadPiece", "BadMenu", "BadChoice", "BadSetting",
        "BadSort", "BadDeed", "BadView", "BadWish", "BadText", "Nought", "Unknown", "Missing", "NoThing", "NoLook",
        "NothingLeft", "Crowded", "Full", "Looked", "TooMany",
    ),
    "hueshade.house": ("House",),
    "hueshade.desk": ("Desk",),
}

MAKERS = {
    "BadText": "(row=0)",
    "NoThing": "(kind, number)",
    "NoLook": "(number)",
    "Looked": "(number)",
}


class TestInterface(unittest.TestCase):
    def test_functions(self):
        for module, rows in SIGNATURES.items():
            for name, signature in rows.items():
                function = getattr(importlib.import_module(module), name)
                self.assertTrue(inspect.isfunction(function), name)
                self.assertEqual(function.__module__, module, name)
                self.assertEqual(str(inspect.signature(function)), signature, name)

    def test_classes(self):
        for module, names in CLASSES.items():
            for name in names:
                told = getattr(importlib.import_module(module), name)
                self.assertTrue(inspect.isclass(told), name)
                self.assertEqual(told.__module__, module, name)
                self.assertEqual(told.__name__, name)

    def test_methods_stand_in_their_class_itself(self):
        for (module, name), rows in METHODS.items():
            told = getattr(importlib.import_module(module), name)
            for method, signature in rows.items():
                self.assertIn(method, vars(told), name)
                self.assertTrue(inspect.isfunction(vars(told)[method]), method)
                self.assertEqual(str(inspect.signature(vars(told)[method])), signature, method)

    def test_values(self):
        for module, rows in VALUES.items():
            for name, worth in rows.items():
                told = getattr(importlib.import_module(module), name)
                self.assertEqual((told, type(told)), (worth, type(worth)), name)

    def test_errors_with_fields(self):
        for name, signature in MAKERS.items():
            told = getattr(importlib.import_module("hueshade.errors"), name)
            self.assertEqual(str(inspect.signature(told)), signature, name)


if __name__ == "__main__":
    unittest.main()
