"""Deeds as texts, written and read."""

import unittest

import plainhouse
import plaintexts

from hueshade.errors import BadText
from hueshade.texts import deed_text, read_deed

PAIRS = (
    (("lamp", 0, -5, 9, 10, 1000000), "lamp 0 -5 9 10 1000000"),
    (("unsure", ((0, 0, 9, 9, 9), (1, 0, 9, 9, 9))), "unsure 0 0 9 9 9 / 1 0 9 9 9"),
    (("unsure", ((0, 0, 9, 9, 9), (-1, 0, 9, 9, 9), (2, 2, 0, 0, 0))), "unsure 0 0 9 9 9 / -1 0 9 9 9 / 2 2 0 0 0"),
    (("post", 1, 2, 3, 4), "post 1 2 3 4"),
    (("pane", 0, 0, 1, -1, ""), "pane 0 0 1 -1 -"),
    (("pane", 0, 0, 1, -1, "rgb"), "pane 0 0 1 -1 rgb"),
    (("move", "lamp", 3, -1, 0), "move lamp 3 -1 0"),
    (("move", "pane", 3, 2000000, 0), "move pane 3 2000000 0"),
    (("switch", 12), "switch 12"),
    (("drop", "post", 1), "drop post 1"),
    (("look", 5, 5, 12000000, 0, 0), "look 5 5 12000000 0 0"),
    (("strike", 4), "strike 4"),
    (("settle", 2, 0), "settle 2 0"),
    (("many", ()), "many 0"),
    (("many", (("switch", 1),)), "many 1\nswitch 1"),
    (
        ("many", (("pane", 0, 0, 1, 1, ""), ("unsure", ((0, 0, 9, 9, 9), (1, 0, 9, 9, 9))), ("strike", 1))),
        "many 3\npane 0 0 1 1 -\nunsure 0 0 9 9 9 / 1 0 9 9 9\nstrike 1",
    ),
)


class TestTexts(unittest.TestCase):
    def spoilt(self, text, row):
        with self.assertRaises(BadText) as caught:
            read_deed(text)
        self.assertEqual(caught.exception.row, row, text)

    def test_there_and_back(self):
        for deed, text in PAIRS:
            self.assertEqual(deed_text(deed), text)
            self.assertEqual(read_deed(text), deed)
        self.assertEqual(read_deed(text=deed_text(deed=PAIRS[0][0])), PAIRS[0][0])

    def test_there_and_back_of_some_deeds(self):
        chance = plainhouse.seeded(1)
        for turn in range(300):
            deeds = tuple(plainhouse.some_deed(chance) for within in range(chance.randint(0, 3)))
            for deed in (*deeds, ("many", deeds)):
                self.assertEqual(read_deed(deed_text(deed)), deed)

    def test_long_numbers_are_written(self):
        self.assertEqual(deed_text(("strike", 10 ** 29)), "strike 1" + "0" * 29)
        self.assertEqual(deed_text(("lamp", -10 ** 29, 0, 0, 0, 0)), "lamp -1" + "0" * 29 + " 0 0 0 0")

    def test_numbers(self):
        self.assertEqual(read_deed("strike 999999999"), ("strike", 999999999))
        self.assertEqual(read_deed("strike -999999999"), ("strike", -999999999))
        self.assertEqual(read_deed("strike 0"), ("strike", 0))
        for word in (
            "1000000000", "-1000000000", "-0", "00", "01", "-01", "+1", "1.0", "1_0", "--1", "-", "", "x", "1-", "0x1",
            "- 1", " 1", "1 ",
        ):
            self.spoilt(f"strike {word}", 0)
            self.spoilt(f"lamp 0 0 0 0 {word}", 0)
            self.spoilt(f"unsure 0 0 0 0 {word} / 1 1 1 1 1", 0)
            self.spoilt(f"many 1\nstrike {word}", 1)

    def test_bounds_are_not_looked_at(self):
        for text, deed in (
            ("lamp 999999999 0 -1 0 0", ("lamp", 999999999, 0, -1, 0, 0)), ("post 3 3 0 0", ("post", 3, 3, 0, 0)),
            ("pane 0 0 0 0 r", ("pane", 0, 0, 0, 0, "r")), ("unsure 0 0 9 9 9", ("unsure", ((0, 0, 9, 9, 9),))),
            ("unsure" + " /".join([" 0 0 9 9 9"] * 9), ("unsure", ((0, 0, 9, 9, 9),) * 9)),
            ("settle -1 -1", ("settle", -1, -1)),
        ):
            self.assertEqual(read_deed(text), deed)

    def test_words(self):
        for word in ("chair", "x", "-", "12", "/", "rgb", "lamp!", "~"):
            self.assertEqual(read_deed(f"move {word} 1 2 3"), ("move", word, 1, 2, 3))
            self.assertEqual(read_deed(f"drop {word} 1"), ("drop", word, 1))
            self.assertEqual(read_deed(f"pane 0 0 1 1 {word}"), ("pane", 0, 0, 1, 1, "" if word == "-" else word))
        for text in ("move  1 2 3", "move 1 2 3", "drop  1", "drop 1", "pane 0 0 1 1 ", "pane 0 0 1 1", "pane 0 0 1 1 r g"):
            self.spoilt(text, 0)

    def test_other_rows(self):
        for text in (
            "", " ", "lamp", "lamp ", "Lamp 0 0 1 1 1", "lamps 0 0 1 1 1", "lamp 0 0 1 1", "lamp 0 0 1 1 1 1",
            "lamp  0 0 1 1 1", "lamp 0 0 1 1 1 ", " lamp 0 0 1 1 1", "undo", "redo", "fits", "light 0 0", "unsure", "unsure ",
            "unsure 0 0 1 1", "unsure 0 0 1 1 1 /", "unsure 0 0 1 1 1 / ", "unsure / 0 0 1 1 1", "unsure 0 0 1 1 1 1 1 1 1 1",
            "unsure 0 0 1 1 1/ 1 1 1 1 1", "unsure 0 0 1 1 1 /1 1 1 1 1", "unsure 0 0 1 1 1 / / 1 1 1 1 1",
            "unsure 0 0 1 1 1 | 1 1 1 1 1", "unsure 0 0 1 1 1 1 / 1 1 1 1", "many", "many ", "many -1", "many x", "many 1 1",
            "many 00", "trial 0",
        ):
            self.spoilt(text, 0)

    def test_rows_behind_many(self):
        self.spoilt("many 1", 1)
        self.spoilt("many 3\nswitch 1", 2)
        self.spoilt("many 999999999\nswitch 1", 2)
        self.spoilt("many 1000000000\nswitch 1", 0)
        self.spoilt("many 2\nswitch\nswitch 1", 1)
        self.spoilt("many 3\nswitch 1\nswitch", 2)
        self.spoilt("many 1\nmany 0", 1)
        self.spoilt("many 2\nswitch 1\nmany 0", 2)
        self.spoilt("many 1\n", 1)

    def test_rows_too_many(self):
        self.spoilt("many 0\nswitch 1", 1)
        self.spoilt("many 0\n", 1)
        self.spoilt("many 1\nswitch 1\nswitch 1", 2)
        self.spoilt("many 1\nswitch 1\n", 2)
        self.spoilt("many 1\nswitch\nswitch 1", 1)
        self.spoilt("switch 1\n", 1)
        self.spoilt("switch 1\nswitch 1", 1)
        self.spoilt("switch\nswitch 1", 0)
        self.spoilt("\nswitch 1", 0)

    def test_spoilt_texts_by_another_way(self):
        good = bad = 0
        for seed in range(3000):
            chance = plainhouse.seeded(seed)
            text = chance.choice(PAIRS)[1]
            for turn in range(chance.randint(1, 2)):
                text = plaintexts.spoil(chance, text)
            try:
                deed = plaintexts.plain_read(text)
            except plaintexts.Spoilt as spoilt:
                self.spoilt(text, spoilt.row)
                bad += 1
            else:
                self.assertEqual(read_deed(text), deed, text)
                good += 1
        self.assertTrue(good > 300 and bad > 1000, (good, bad))

    def test_told_is_always_a_tuple_of_tuples(self):
        deed = read_deed("many 2\nswitch 1\nunsure 0 0 9 9 9 / 1 0 9 9 9")
        self.assertEqual([type(deed), type(deed[1]), type(deed[1][1][1])], [tuple] * 3)


if __name__ == "__main__":
    unittest.main()
