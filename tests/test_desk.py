"""A desk's answers to lines."""

import unittest

import plainhouse
import plaintexts

from hueshade.desk import Desk
from hueshade.house import House

GOOD = (
    "lamp 0 0 9 8 7", "unsure 0 0 1 1 1 / 9 0 1 1 1", "post 3 0 3 0", "pane 0 3 3 3 -", "move lamp 1 0 0", "switch 1",
    "drop post 1", "look 5 5 1 1 1", "strike 1", "settle 1 0", "undo", "redo", "light 5 5", "why 5 5", "fits", "clash", "things",
)


class DeskTest(unittest.TestCase):
    def says(self, desk, *rows):
        for line, answer in rows:
            self.assertEqual(desk.say(line), answer, line)


class TestDeeds(DeskTest):
    def test_each_deed(self):
        desk = Desk()
        self.says(
            desk, ("lamp 0 0 9 8 7", "1"), ("lamp 1 0 9 8 7", "2"), ("unsure 0 0 1 1 1 / 9 0 1 1 1", "3"), ("post 3 0 3 0", "1"),
            ("pane 0 3 3 3 -", "1"), ("pane 0 3 3 3 rg", "2"), ("move lamp 1 -2 4", "done"), ("switch 2", "done"),
            ("look 5 5 1 1 1", "1"), ("settle 3 1", "done"), ("strike 1", "done"), ("drop pane 1", "done"), ("drop lamp 2", "done"),
        )
        house = desk.house()
        self.assertEqual(house.lamps(), [(1, ((-2, 4, 9, 8, 7),), True), (3, ((9, 0, 1, 1, 1),), True)])
        self.assertEqual((house.posts(), house.panes()), ([(1, (3, 0, 3, 0))], [(2, ((0, 3), (3, 3)), "rg")]))
        self.assertEqual(len(desk), 13)

    def test_refused(self):
        desk = Desk()
        self.says(
            desk, ("lamp 1000001 0 9 9 9", "no badplace"), ("lamp 0 0 -1 0 0", "no badlight"), ("switch 1", "no nothing"),
            ("unsure 0 0 1 1 1", "no badmenu"), ("post 1 0 0 0", "no badblock"), ("pane 0 0 0 0 r", "no badpiece"),
            ("pane 0 0 0 1 x", "no badsift"), ("move chair 1 0 0", "no badsort"), ("drop look 1", "no badsort"),
            ("strike 1", "no nolook"), ("undo", "no nothingleft"), ("redo", "no nothingleft"), ("light 0 -1000001", "no badplace"),
            ("why 999999999 0", "no badplace"), ("lamp 0 0 1 1 1", "1"), ("settle 1 1", "no badchoice"), ("look 1 1 1 1 1", "1"),
            ("drop lamp 1", "no looked"), ("look 0 0 12000001 0 0", "no badlight"),
        )
        self.assertEqual(desk.house().deeds(), [("lamp", 0, 0, 1, 1, 1), ("look", 1, 1, 1, 1, 1)])
        for turn in range(11):
            desk.say("lamp 0 0 1 1 1")
        self.says(desk, ("lamp 0 0 1 1 1", "no full"))

    def test_what_is_refused_can_still_be_done_again(self):
        desk = Desk()
        self.says(
            desk, ("lamp 0 0 1 1 1", "1"), ("undo", "lamp 0 0 1 1 1"), ("switch 1", "no nothing"), ("what", "what"),
            ("redo", "lamp 0 0 1 1 1"), ("redo", "no nothingleft"),
        )

    def test_no_many(self):
        desk = Desk()
        self.says(desk, ("many 0", "what"), ("many 1", "what"), ("many", "what"))
        self.assertEqual(desk.house().deeds(), [])


class TestQuestions(DeskTest):
    def test_undo_and_redo(self):
        house = House()
        house.pane((0, 0), (1, -1))
        house.many([("lamp", 0, 0, 1, 1, 1), ("switch", 1)])
        house.unsure([(0, 0, 9, 9, 9), (1, 0, 9, 9, 9)])
        house.many([])
        self.says(
            Desk(house), ("undo", "many 0"), ("undo", "unsure 0 0 9 9 9 / 1 0 9 9 9"), ("undo", "many 2"), ("undo", "pane 0 0 1 -1 -"),
            ("undo", "no nothingleft"), ("redo", "pane 0 0 1 -1 -"), ("redo", "many 2"), ("redo", "unsure 0 0 9 9 9 / 1 0 9 9 9"),
            ("redo", "many 0"), ("redo", "no nothingleft"),
        )

    def test_light(self):
        desk = Desk()
        self.says(
            desk, ("light 0 0", "0 0 0"), ("lamp 0 0 9 8 7", "1"), ("light 5 -5", "9 8 7"), ("pane -1 -1 1 -1 rb", "1"),
            ("light 0 -5", "9 0 7"), ("unsure 0 0 1 1 1 / 1 1 1 1 1", "2"), ("light 0 0", "no unknown"),
            ("light 1000001 0", "no badplace"), ("settle 2 0", "done"), ("light 1000000 -1000000", "10 0 8"),
        )

    def test_why(self):
        desk = Desk()
        self.says(
            desk, ("why 0 0", "none"), ("lamp 0 0 9 8 7", "1"), ("why 5 0", "1:"), ("post 1 5 1 5", "1"), ("post 3 0 3 0", "2"),
            ("pane 4 -1 4 1 r", "1"), ("why 9 0", "1: post 2 pane 1"), ("lamp 9 9 1 1 1", "2"), ("why 9 0", "1: post 2 pane 1; 2:"),
            ("why 3 0", "1: post 2; 2: post 2"), ("switch 1", "done"), ("why 9 0", "2:"), ("switch 2", "done"), ("why 9 0", "none"),
            ("unsure 0 0 1 1 1 / 1 1 1 1 1", "3"), ("why 9 0", "no unknown"),
        )

    def test_fits_and_clash(self):
        desk = Desk()
        self.says(
            desk, ("fits", "1"), ("clash", "none"), ("unsure 0 0 1 0 0 / 0 0 0 1 0 / 0 0 0 0 1", "1"), ("fits", "3"),
            ("look 5 5 1 0 0", "1"), ("fits", "1"), ("clash", "none"), ("look 6 5 0 1 0", "2"), ("fits", "0"), ("clash", "1 2"),
            ("strike 1", "done"), ("look 5 5 7 7 7", "3"), ("clash", "3"), ("undo", "look 5 5 7 7 7"), ("fits", "1"),
        )

    def test_things(self):
        desk = Desk()
        self.says(
            desk, ("things", "0 0 0"), ("lamp 0 0 1 1 1", "1"), ("lamp 0 0 1 1 1", "2"), ("post 0 0 0 0", "1"), ("look 0 0 1 1 1", "1"),
            ("things", "2 1 0"), ("pane 0 0 1 1 r", "1"), ("things", "2 1 1"), ("drop post 1", "done"), ("things", "2 0 1"),
        )


class TestOtherLines(DeskTest):
    def test_lines_of_no_form(self):
        desk = Desk()
        for line in (
            "", " ", "what", "light", "light 0", "light 0 0 0", "light  0 0", "light 0 0 ", " light 0 0", "light 0 x", "light 00 0",
            "light -0 0", "light +1 0", "light 1000000000 0", "light 0 1.0", "Light 0 0", "why", "why 0", "why 0 0 0", "why 0 -",
            "fits 1", "fits ", " fits", "clash 0", "things 1", "undo 1", "redo ", "undo redo", "Undo", "lamp 0 0 1 1", "lamp",
            "unsure", "unsure 0 0 1 1", "post 0 0", "settle 1", "look 0 0", "lamp 0 0 1 1 1 1", "deeds", "page", "none", "done", "no",
            "light 0,0", "reasons 0 0", "drop 1", "move lamp 1", "-", "0",
        ):
            self.assertEqual(desk.say(line), "what", line)
        self.assertEqual(desk.house(), House())
        self.assertEqual(desk.house().deeds(), [])

    def test_spoilt_lines_by_another_way(self):
        questions = {"undo", "redo", "fits", "clash", "things"}
        number = plaintexts.NUMBER
        for seed in range(1500):
            chance = plainhouse.seeded(seed)
            line = plaintexts.spoil(chance, chance.choice(GOOD)).replace("\n", "")
            known = line in questions or plaintexts.plain_row(line) is not None
            known = known or plaintexts.re.fullmatch(f"(?:light|why) {number} {number}", line) is not None
            self.assertEqual(Desk().say(line) == "what", not known, line)


class TestDesks(DeskTest):
    def test_a_new_house(self):
        one, other = Desk(), Desk(None)
        self.assertIsInstance(one.house(), House)
        self.assertEqual(one.house(), House())
        one.say("lamp 0 0 1 1 1")
        self.assertEqual(other.say("things"), "0 0 0")
        self.assertIs(one.house(), one.house())

    def test_that_very_house_also_where_nothing_stands(self):
        house = House()
        desk = Desk(house=house)
        self.assertIs(desk.house(), house)
        self.assertEqual(desk.say("lamp 0 0 1 1 1"), "1")
        self.assertEqual(len(house), 1)
        house.lamp(1, 1)
        self.assertEqual(desk.say(line="things"), "2 0 0")

    def test_two_desks_of_one_house(self):
        house = House()
        one, other = Desk(house), Desk(house)
        self.says(one, ("lamp 0 0 1 1 1", "1"), ("things", "1 0 0"))
        self.says(other, ("undo", "lamp 0 0 1 1 1"),)
        self.says(one, ("redo", "lamp 0 0 1 1 1"), ("undo", "lamp 0 0 1 1 1"))
        self.assertEqual((len(one), len(other)), (4, 1))

    def test_length(self):
        desk = Desk()
        self.assertEqual(len(desk), 0)
        for count, line in enumerate(("lamp 0 0 1 1 1", "switch 9", "nothing of that sort", "", "fits", "fits")):
            desk.say(line)
            self.assertEqual(len(desk), count + 1)
        self.assertEqual(len(Desk(desk.house())), 0)

    def test_twins_stay(self):
        desk = Desk()
        desk.say("lamp 0 0 1 1 1")
        twin = desk.house().twin()
        desk.say("undo")
        self.assertEqual(len(twin), 1)


if __name__ == "__main__":
    unittest.main()
