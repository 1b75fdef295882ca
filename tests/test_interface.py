"""The names of the interface stand in their files, with the arguments and defaults told."""

import importlib
import inspect
import unittest

SIGNATURES = {
    "hueshade.numbers": {
        "fraction": "(top, bottom=1)",
        "plus": "(one, other)",
        "less": "(one, other)",
        "times": "(one, other)",
        "middle": "(one, other)",
        "order": "(one, other)",
        "fraction_text": "(one)",
    },
    "hueshade.lights": {
        "sifted": "(light, sift)",
        "summed": "(lights)",
        "both_sifts": "(one, other)",
    },
    "hueshade.figures": {
        "side": "(one, other, place)",
        "on_piece": "(place, piece)",
        "pieces_meet": "(one, other)",
        "block_meets": "(block, piece)",
        "piece_shares": "(other, piece)",
        "block_shares": "(block, piece)",
    },
    "hueshade.edges": {
        "block_shade": "(place, block, line)",
        "piece_shade": "(place, piece, line)",
    },
    "hueshade.menus": {
        "how_many": "(counts)",
        "all_rows": "(counts, *, most=200)",
        "row_number": "(counts, row)",
        "row_at": "(counts, number)",
    },
}

CLASSES = {
    "hueshade.errors": (
        "ShadeError", "BadPlace", "BadLight", "BadSift", "BadBlock", "BadPiece", "BadMenu", "BadChoice", "BadSetting",
        "BadSort", "BadDeed", "BadView", "BadWish", "BadText", "Nought", "Unknown", "Missing", "NoThing", "NoLook",
        "NothingLeft", "Crowded", "Full", "Looked", "TooMany",
    ),
}

MAKERS = {
    "BadText": "(row=0)",
    "NoThing": "(kind, number)",
    "NoLook": "(number)",
    "Looked": "(number)",
}


class TestInterface(unittest.TestCase):
    def test_functions(self):
        for module, rows in SIGNATURES.items():
            for name, signature in rows.items():
                function = getattr(importlib.import_module(module), name)
                self.assertTrue(inspect.isfunction(function), name)
                self.assertEqual(function.__module__, module, name)
                self.assertEqual(str(inspect.signature(function)), signature, name)

    def test_classes(self):
        for module, names in CLASSES.items():
            for name in names:
                told = getattr(importlib.import_module(module), name)
                self.assertTrue(inspect.isclass(told), name)
                self.assertEqual(told.__module__, module, name)
                self.assertEqual(told.__name__, name)

    def test_errors_with_fields(self):
        for name, signature in MAKERS.items():
            told = getattr(importlib.import_module("hueshade.errors"), name)
            self.assertEqual(str(inspect.signature(told)), signature, name)


if __name__ == "__main__":
    unittest.main()
