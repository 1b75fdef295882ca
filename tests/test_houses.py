"""Houses as objects: ==, !=, in, len, bool, repr, str."""

import unittest

import plainhouse
from making import TWO, house_of

from hueshade.errors import BadPlace
from hueshade.house import House
from hueshade.texts import deed_text


class TestEqual(unittest.TestCase):
    def alike(self, one, other):
        self.assertTrue(one == other)
        self.assertTrue(other == one)
        self.assertFalse(one != other)
        self.assertIn(one, [5, other])
        self.assertEqual([one], [other])

    def unlike(self, one, other):
        self.assertFalse(one == other)
        self.assertFalse(other == one)
        self.assertTrue(one != other)
        self.assertNotIn(one, [5, other])

    def test_of_no_deeds(self):
        self.alike(House(), House())

    def test_of_the_same_deeds(self):
        deeds = (("lamp", 0, 0, 1, 1, 1), ("unsure", TWO), ("post", 0, 0, 1, 1), ("look", 5, 5, 1, 1, 1))
        self.alike(house_of(*deeds), house_of(*deeds))
        self.alike(house_of(*deeds), house_of(("many", deeds)))

    def test_things_that_stand(self):
        base = house_of(("lamp", 0, 0, 1, 1, 1), ("post", 0, 0, 1, 1), ("pane", 0, 0, 1, 1, "r"))
        for deeds in (
            (("lamp", 0, 0, 1, 1, 2), ("post", 0, 0, 1, 1), ("pane", 0, 0, 1, 1, "r")),
            (("lamp", 0, 0, 1, 1, 1), ("post", 0, 0, 1, 2), ("pane", 0, 0, 1, 1, "r")),
            (("lamp", 0, 0, 1, 1, 1), ("post", 0, 0, 1, 1), ("pane", 0, 0, 1, 1, "g")),
            (("lamp", 0, 0, 1, 1, 1), ("post", 0, 0, 1, 1), ("pane", 1, 1, 0, 0, "r")),
            (("lamp", 0, 0, 1, 1, 1), ("post", 0, 0, 1, 1)),
        ):
            self.unlike(base, house_of(*deeds))

    def test_however_they_came_there(self):
        self.alike(house_of(("lamp", 3, 4, 1, 1, 1)), house_of(("lamp", 0, 0, 1, 1, 1), ("move", "lamp", 1, 3, 4)))
        self.alike(house_of(("lamp", 9, 0, 0, 1, 0)), house_of(("unsure", TWO), ("settle", 1, 1)))
        self.alike(
            house_of(("lamp", 0, 0, 1, 1, 1)), house_of(("lamp", 0, 0, 1, 1, 1), ("switch", 1), ("switch", 1), ("many", ()))
        )
        self.alike(
            house_of(("lamp", 0, 0, 1, 1, 1), ("post", 0, 0, 1, 1)), house_of(("post", 0, 0, 1, 1), ("lamp", 0, 0, 1, 1, 1))
        )

    def test_on_and_off(self):
        self.unlike(house_of(("lamp", 0, 0, 1, 1, 1)), house_of(("lamp", 0, 0, 1, 1, 1), ("switch", 1)))

    def test_choices_in_their_order(self):
        self.unlike(house_of(("unsure", TWO)), house_of(("unsure", TWO[::-1])))
        self.unlike(house_of(("unsure", TWO)), house_of(("unsure", TWO), ("settle", 1, 0)))

    def test_numbers_of_things(self):
        one = house_of(("lamp", 0, 0, 1, 1, 1), ("lamp", 5, 5, 1, 1, 1))
        other = house_of(("lamp", 5, 5, 1, 1, 1), ("lamp", 0, 0, 1, 1, 1))
        self.unlike(one, other)

    def test_numbers_that_come_next(self):
        for deeds in (
            (("lamp", 0, 0, 1, 1, 1), ("drop", "lamp", 1)), (("post", 0, 0, 1, 1), ("drop", "post", 1)),
            (("pane", 0, 0, 1, 1, ""), ("drop", "pane", 1)), (("look", 0, 0, 1, 1, 1), ("strike", 1)),
        ):
            house = house_of(*deeds)
            self.unlike(house, House())
            self.assertEqual(len(house), 0)
            house.undo()
            house.undo()
            self.alike(house, House())

    def test_what_can_be_undone_does_not_count(self):
        house = house_of(("lamp", 0, 0, 1, 1, 1), ("post", 0, 0, 1, 1))
        house.undo()
        self.alike(house, house_of(("lamp", 0, 0, 1, 1, 1)))
        self.alike(house_of(("many", ())), House())

    def test_looks(self):
        base = house_of(("lamp", 0, 0, 1, 1, 1), ("look", 5, 5, 1, 1, 1))
        self.unlike(base, house_of(("lamp", 0, 0, 1, 1, 1), ("look", 5, 5, 1, 1, 2)))
        self.unlike(base, house_of(("lamp", 0, 0, 1, 1, 1), ("look", 5, 6, 1, 1, 1)))
        self.unlike(base, house_of(("lamp", 0, 0, 1, 1, 1), ("look", 5, 5, 1, 1, 1), ("look", 5, 5, 1, 1, 1)))
        self.unlike(
            house_of(("look", 5, 5, 1, 1, 1), ("look", 6, 6, 1, 1, 1)), house_of(("look", 6, 6, 1, 1, 1), ("look", 5, 5, 1, 1, 1))
        )

    def test_looks_of_unlike_floors(self):
        start = ("lamp", 0, 0, 1, 1, 1)
        look = ("look", 5, 5, 1, 1, 1)
        for change in (
            (("switch", 1),), (("move", "lamp", 1, 1, 0),), (("post", 0, 0, 1, 1),), (("pane", 0, 0, 1, 1, "r"),),
            (("lamp", 9, 9, 1, 1, 1),),
        ):
            self.unlike(house_of(start, *change, look), house_of(start, look, *change))
        self.alike(house_of(start, ("switch", 1), ("switch", 1), look), house_of(start, look, ("switch", 1), ("switch", 1)))

    def test_floors_have_the_choices_that_are_left_now(self):
        self.alike(
            house_of(("unsure", TWO), ("look", 5, 5, 1, 1, 1), ("settle", 1, 1)),
            house_of(("lamp", 9, 0, 0, 1, 0), ("look", 5, 5, 1, 1, 1)),
        )
        self.alike(
            house_of(("unsure", TWO), ("look", 5, 5, 1, 1, 1), ("settle", 1, 1)),
            house_of(("unsure", TWO), ("settle", 1, 1), ("look", 5, 5, 1, 1, 1)),
        )
        self.unlike(
            house_of(("unsure", TWO), ("look", 5, 5, 1, 1, 1), ("settle", 1, 1)),
            house_of(("unsure", TWO), ("look", 5, 5, 1, 1, 1), ("settle", 1, 0)),
        )

    def test_numbers_that_came_next_on_floors_do_not_count(self):
        self.alike(
            house_of(("look", 5, 5, 1, 1, 1), ("post", 0, 0, 1, 1), ("drop", "post", 1)),
            house_of(("post", 0, 0, 1, 1), ("drop", "post", 1), ("look", 5, 5, 1, 1, 1)),
        )

    def test_twins_and_floors(self):
        house = house_of(("unsure", TWO), ("post", 0, 0, 1, 1), ("look", 5, 5, 1, 1, 1))
        self.alike(house, house.twin())
        self.unlike(house, house.floor_of(1))
        self.alike(house.floor_of(1), house.floor_of(1))
        self.alike(house.floor_of(1), house_of(*house.deeds(), ("strike", 1)))
        twin = house.twin()
        twin.switch(1)
        self.unlike(house, twin)

    def test_against_other_things(self):
        class Yes:
            def __eq__(self, other):
                return True

        for house in (House(), house_of(("lamp", 0, 0, 1, 1, 1))):
            for other in (None, 0, "", "House()", str(house), repr(house), (), [], {}, house.lamps(), House, house.deeds):
                self.assertFalse(house == other)
                self.assertFalse(other == house)
                self.assertTrue(house != other)
                self.assertNotIn(house, [other])
            self.assertIs(house == Yes(), False)
            self.assertIs(house == house, True)

    def test_same_deeds_undos_and_redos_tell_the_same(self):
        for seed in range(10):
            one, other = House(), House()
            chance = plainhouse.seeded(seed)
            for turn in range(40):
                pick, deed = chance.random(), plainhouse.some_deed(chance)
                told = []
                for house in (one, other):
                    try:
                        told.append(house.undo() if pick < 0.1 else house.redo() if pick < 0.2 else house.do(deed))
                    except (ValueError, LookupError, RuntimeError) as refusal:
                        told.append(refusal.word)
                self.assertEqual(told[0], told[1])
            self.alike(one, other)
            self.assertEqual((one.fits(), one.clash(), str(one)), (other.fits(), other.clash(), str(other)))


class TestLength(unittest.TestCase):
    def test_counts_what_stands(self):
        house = house_of(
            ("lamp", 0, 0, 1, 1, 1), ("unsure", TWO), ("post", 0, 0, 1, 1), ("pane", 0, 0, 1, 1, ""), ("look", 0, 0, 1, 1, 1)
        )
        self.assertEqual(len(house), 4)
        house.drop("post", 1)
        house.switch(1)
        self.assertEqual(len(house), 3)
        house.undo()
        house.undo()
        self.assertEqual(len(house), 4)

    def test_truth(self):
        self.assertFalse(House())
        self.assertFalse(house_of(("look", 0, 0, 1, 1, 1), ("many", ())))
        for deed in (("lamp", 0, 0, 1, 1, 1), ("unsure", TWO), ("post", 0, 0, 1, 1), ("pane", 0, 0, 1, 1, "")):
            house = house_of(deed)
            self.assertTrue(house)
            house.undo()
            self.assertFalse(house)

    def test_repr(self):
        self.assertEqual(repr(House()), "House(0 lamps, 0 posts, 0 panes)")
        house = house_of(("lamp", 0, 0, 1, 1, 1), ("unsure", TWO), ("post", 0, 0, 1, 1), ("look", 0, 0, 1, 1, 1))
        self.assertEqual(repr(house), "House(2 lamps, 1 posts, 0 panes)")

    def test_str_has_the_rows_of_the_deeds_that_stand(self):
        house = house_of(("lamp", 0, 0, 1, 1, 1), ("many", (("unsure", TWO), ("switch", 1))), ("many", ()), ("switch", 1))
        house.undo()
        self.assertEqual(str(house), "lamp 0 0 1 1 1\nmany 2\nunsure 0 0 1 0 0 / 9 0 0 1 0\nswitch 1\nmany 0\n")
        self.assertEqual(str(house), "".join(deed_text(deed) + "\n" for deed in house.deeds()))
        self.assertEqual(str(House()), "")


class TestAsking(unittest.TestCase):
    def asks(self, house):
        return (
            house.lamps(), house.posts(), house.panes(), house.looks(), house.settings(), house.fits(), house.clash(),
            house.left(1), house.light(3, 3, setting=(0,)), house.reasons(3, 3, setting=(0,)), house.lights(3, 3),
            house.along((0, 5), (5, 0), setting=(0,)), house.share_light((0, 5), (5, 0), (1, 3), setting=(0,)),
            house.coming("lamp"), house.floor_of(1), house.deeds(), house.busy(), len(house), repr(house), str(house),
        )

    def test_asking_changes_nothing(self):
        house = house_of(("unsure", TWO), ("post", 0, 0, 1, 1), ("look", 5, 5, 1, 1, 1), ("pane", 0, 5, 1, 1, "r"))
        house.undo()
        twin = house.twin()
        self.assertEqual(self.asks(house), self.asks(house))
        self.assertRaises(BadPlace, house.light, 10 ** 7, 0)
        self.assertEqual(self.asks(house), self.asks(twin))
        self.assertEqual(house.redo(), ("pane", 0, 5, 1, 1, "r"))


if __name__ == "__main__":
    unittest.main()
