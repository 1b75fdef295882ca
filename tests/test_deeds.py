"""Deeds by their methods and their tuples, refusals in order, many, trial, undo, redo, twins."""

import unittest

import plainhouse
from making import house_of

from hueshade import errors
from hueshade.house import House
from hueshade.lights import BRIGHT, SIFTS
from hueshade.numbers import FAR

FIELDS = ("kind", "number", "row")
HUGE = 10 ** 29


def outcome(doing, *things):
    """What is told, or the name and the fields of what it is refused by."""
    try:
        return ("told", doing(*things))
    except plainhouse.Refused as refusal:
        return refusal.told
    except (errors.ShadeError, errors.Missing, errors.Crowded) as refusal:
        fields = {name: getattr(refusal, name) for name in FIELDS if hasattr(refusal, name)}
        return (type(refusal).__name__, fields)


def everything(house):
    """All that a house tells of what stands and what can be undone and done again."""
    rows = [house.lamps(), house.posts(), house.panes(), house.looks(), house.deeds(), house.settings()]
    rows += [[house.coming(sort) for sort in ("lamp", "post", "pane", "look")], house.fits(), len(house), str(house)]
    rows += [[(number, house.floor_of(number).lamps()) for number, place, light in house.looks()]]
    twin = house.twin()
    again = []
    while outcome(twin.redo)[0] == "told":
        again.append(twin.deeds()[-1])
    return rows + [again]


class DeedTest(unittest.TestCase):
    def refused(self, house, deed, name, **fields):
        before = everything(house)
        self.assertEqual(outcome(house.do, deed), (name, fields), deed)
        self.assertEqual(everything(house), before, deed)

    def refused_ask(self, house, doing, name, **fields):
        before = everything(house)
        self.assertEqual(outcome(doing), (name, fields))
        self.assertEqual(everything(house), before)


class TestForms(DeedTest):
    def test_bad_deeds(self):
        house = house_of(("lamp", 0, 0, 1, 1, 1))
        good = [
            ("lamp", 0, 0, 9, 9, 9), ("unsure", ((0, 0, 1, 1, 1), (1, 0, 1, 1, 1))), ("post", 0, 0, 1, 1),
            ("pane", 0, 0, 1, 1, ""), ("move", "lamp", 1, 0, 0), ("switch", 1), ("look", 0, 0, 1, 1, 1),
            ("settle", 1, 0), ("strike", 1), ("drop", "post", 1), ("many", ()),
        ]
        self.refused(house, (), "BadDeed")
        for word in ("", "Lamp", "lamps", "lamp ", "undo", "trial", "light", "many 0"):
            self.refused(house, (word, 0, 0, 9, 9, 9), "BadDeed")
            self.refused(house, (word,), "BadDeed")
        for deed in good:
            self.refused(house, deed[:1], "BadDeed")
            self.refused(house, deed + (0,), "BadDeed")
            self.refused(house, deed[:-1], "BadDeed")

    def test_form_goes_ahead_of_all(self):
        house = house_of(*[("lamp", 0, 0, 1, 1, 1)] * 12)
        self.refused(house, ("lamp", FAR + 1, 0, -1, 9, 9, 9), "BadDeed")
        self.refused(house, ("move", "chair", 0, 0), "BadDeed")
        self.refused(house, ("many", (), ()), "BadDeed")


class TestLamp(DeedTest):
    def test_method_and_tuple(self):
        house = House()
        self.assertEqual(house.lamp(1, -2), 1)
        self.assertEqual(house.lamp(up=4, across=3, light=(1, 2, 3)), 2)
        self.assertEqual(house.do(("lamp", 5, 6, 7, 8, 9)), 3)
        self.assertEqual(house.lamps(), [
            (1, ((1, -2, 9, 9, 9),), True), (2, ((3, 4, 1, 2, 3),), True), (3, ((5, 6, 7, 8, 9),), True),
        ])
        self.assertEqual(house.deeds(), [("lamp", 1, -2, 9, 9, 9), ("lamp", 3, 4, 1, 2, 3), ("lamp", 5, 6, 7, 8, 9)])

    def test_light_is_handed_in_by_its_name_alone(self):
        self.assertRaises(TypeError, House().lamp, 0, 0, (1, 2, 3))

    def test_bounds(self):
        for place in ((FAR, FAR), (-FAR, -FAR)):
            self.assertEqual(House().lamp(*place, light=(0, BRIGHT, 0)), 1)
        for place in ((FAR + 1, 0), (0, FAR + 1), (-FAR - 1, 0), (0, -FAR - 1), (HUGE, 0)):
            self.refused(House(), ("lamp", *place, -1, 0, 0), "BadPlace")
        for light in ((-1, 0, 0), (0, -1, 0), (0, 0, -1), (BRIGHT + 1, 0, 0), (0, BRIGHT + 1, 0), (0, 0, BRIGHT + 1)):
            self.refused(House(), ("lamp", 0, 0, *light), "BadLight")
            house = House()
            self.refused_ask(house, lambda: house.lamp(0, 0, light=light), "BadLight")

    def test_full_goes_last(self):
        house = house_of(*[("lamp", 0, 0, 1, 1, 1)] * 11)
        self.assertEqual(house.lamp(0, 0), 12)
        self.refused(house, ("lamp", 0, 0, 1, 1, 1), "Full")
        self.refused(house, ("lamp", 0, 0, -1, 1, 1), "BadLight")
        self.refused(house, ("lamp", FAR + 1, 0, -1, 1, 1), "BadPlace")
        house.drop("lamp", 3)
        self.assertEqual(house.lamp(0, 0), 13)


class TestUnsure(DeedTest):
    choices = ((0, 0, 1, 1, 1), (1, 0, 1, 1, 1), (0, 1, 1, 1, 1), (2, 0, 1, 1, 1), (0, 2, 1, 1, 1), (3, 0, 1, 1, 1))

    def test_method_and_tuple(self):
        house = House()
        self.assertEqual(house.unsure(list(self.choices[:2])), 1)
        self.assertEqual(house.unsure(choices=self.choices), 2)
        self.assertEqual(house.do(("unsure", self.choices[:3])), 3)
        self.assertEqual(house.lamps(), [
            (1, self.choices[:2], True), (2, self.choices, True), (3, self.choices[:3], True),
        ])
        self.assertEqual(house.deeds()[0], ("unsure", self.choices[:2]))

    def test_counts_and_likes(self):
        for choices in ((), self.choices[:1], self.choices + ((9, 9, 1, 1, 1),), (self.choices[0],) * 2):
            self.refused(House(), ("unsure", choices), "BadMenu")
        self.refused(House(), ("unsure", ((FAR + 1, 0, 1, 1, 1),) * 2), "BadMenu")
        self.refused(House(), ("unsure", (*self.choices[:3], self.choices[0])), "BadMenu")
        alike_but_for_the_light = ((0, 0, 1, 1, 1), (0, 0, 1, 1, 2))
        self.assertEqual(House().unsure(alike_but_for_the_light), 1)

    def test_choices_are_looked_at_in_their_order(self):
        far, bright = (FAR + 1, 0, 1, 1, 1), (0, 0, 1, 1, BRIGHT + 1)
        self.refused(House(), ("unsure", (far, bright)), "BadPlace")
        self.refused(House(), ("unsure", (bright, far)), "BadLight")
        self.refused(House(), ("unsure", (self.choices[0], (0, -FAR - 1, -1, 1, 1))), "BadPlace")
        self.refused(House(), ("unsure", (self.choices[0], (0, -FAR, -1, 1, 1))), "BadLight")
        self.assertEqual(House().unsure(((FAR, -FAR, 0, 0, 0), (FAR, -FAR, BRIGHT, 0, 0))), 1)

    def test_full_of_lamps(self):
        house = house_of(*[("lamp", 0, 0, 1, 1, 1)] * 12)
        self.refused(house, ("unsure", self.choices[:2]), "Full")
        self.refused(house, ("unsure", ((0, 0, 1, 1, 1), (0, 0, 1, 1, -1))), "BadLight")
        self.refused(house, ("unsure", self.choices[:1]), "BadMenu")

    def test_full_of_settings(self):
        house = house_of(*[("unsure", self.choices[:count]) for count in (5, 5, 2, 2)])
        self.refused(house, ("unsure", self.choices[:3]), "Full")
        self.assertEqual(house.unsure(self.choices[:2]), 5)
        self.assertEqual(len(house.settings()), 200)
        self.refused(house, ("unsure", self.choices[:2]), "Full")
        self.assertEqual(house.lamp(0, 0), 6)
        house.settle(5)
        self.assertEqual(house.unsure(self.choices[:2]), 7)

    def test_201_settings_are_too_many(self):
        house = house_of(*[("unsure", self.choices[:count]) for count in (6, 6, 5)])
        self.assertEqual(len(house.settings()), 180)
        self.refused(house, ("unsure", self.choices[:2]), "Full")


class TestPost(DeedTest):
    def test_method_and_tuple(self):
        house = House()
        self.assertEqual(house.post(1, 2, 3, 4), 1)
        self.assertEqual(house.post(5, 6), 2)
        self.assertEqual(house.post(5, 6, 7), 3)
        self.assertEqual(house.post(5, 6, high=8), 4)
        self.assertEqual(house.post(high=4, right=3, low=2, left=1), 5)
        self.assertEqual(house.post(5, 6, None, None), 6)
        self.assertEqual(house.post(-1, -1, 0, 0), 7)
        self.assertEqual(house.do(("post", 0, 0, 0, 0)), 8)
        self.assertEqual(house.posts(), [
            (1, (1, 2, 3, 4)), (2, (5, 6, 5, 6)), (3, (5, 6, 7, 6)), (4, (5, 6, 5, 8)), (5, (1, 2, 3, 4)),
            (6, (5, 6, 5, 6)), (7, (-1, -1, 0, 0)), (8, (0, 0, 0, 0)),
        ])
        self.assertEqual(house.deeds()[1:4], [("post", 5, 6, 5, 6), ("post", 5, 6, 7, 6), ("post", 5, 6, 5, 8)])

    def test_refusals_in_order(self):
        house = house_of(*[("post", 0, 0, 1, 1)] * 11)
        for at in range(4):
            for worth in (FAR + 1, -FAR - 1):
                block = [2, 2, 1, 1]
                block[at] = worth
                self.refused(house, ("post", *block), "BadPlace")
        for block in ((1, 0, 0, 0), (0, 1, 0, 0), (1, 1, 0, 0)):
            self.refused(house, ("post", *block), "BadBlock")
        self.refused_ask(house, lambda: house.post(1, 0, 0), "BadBlock")
        self.assertEqual(house.post(-FAR, -FAR, FAR, FAR), 12)
        self.refused(house, ("post", 0, 0, 0, 0), "Full")
        self.refused(house, ("post", 1, 0, 0, 0), "BadBlock")
        self.refused(house, ("post", 1, 0, 0, FAR + 1), "BadPlace")
        self.assertEqual((house.lamp(0, 0), house.pane((0, 0), (1, 1))), (1, 1))


class TestPane(DeedTest):
    def test_method_and_tuple(self):
        house = House()
        self.assertEqual(house.pane((1, 2), (3, 4)), 1)
        self.assertEqual(house.pane(other=(3, 4), one=(1, 2), sift="gb"), 2)
        self.assertEqual(house.do(("pane", 0, 0, 0, 1, "r")), 3)
        self.assertEqual(house.panes(), [
            (1, ((1, 2), (3, 4)), ""), (2, ((1, 2), (3, 4)), "gb"), (3, ((0, 0), (0, 1)), "r"),
        ])
        self.assertEqual(house.deeds()[:2], [("pane", 1, 2, 3, 4, ""), ("pane", 1, 2, 3, 4, "gb")])
        self.assertRaises(TypeError, house.pane, (1, 2), (3, 4), "gb")

    def test_all_sifts(self):
        house = House()
        for sift in SIFTS:
            house.pane((0, 0), (1, 1), sift=sift)
        self.assertEqual([sift for number, piece, sift in house.panes()], list(SIFTS))

    def test_refusals_in_order(self):
        house = house_of(*[("pane", 0, 0, 1, 1, "")] * 11)
        for at in range(4):
            for worth in (FAR + 1, -FAR - 1):
                piece = [2, 2, 2, 2]
                piece[at] = worth
                self.refused(house, ("pane", *piece, "x"), "BadPlace")
        self.refused(house, ("pane", 2, 3, 2, 3, "x"), "BadPiece")
        self.refused(house, ("pane", FAR + 1, 3, FAR + 1, 3, "x"), "BadPlace")
        for sift in ("x", "gr", "rr", "R", "-", "r g", "rgbr"):
            self.refused(house, ("pane", 2, 3, 3, 3, sift), "BadSift")
        self.assertEqual(house.pane((-FAR, -FAR), (FAR, FAR)), 12)
        self.refused(house, ("pane", 2, 3, 3, 3, "r"), "Full")
        self.refused(house, ("pane", 2, 3, 3, 3, "x"), "BadSift")
        self.refused(house, ("pane", 2, 3, 2, 3, "r"), "BadPiece")


class TestMove(DeedTest):
    def setUp(self):
        self.house = house_of(
            ("lamp", 0, 0, 1, 1, 1), ("unsure", ((5, 0, 1, 1, 1), (-7, 3, 1, 1, 1))), ("post", -2, -3, 4, 5),
            ("pane", 1, 2, -3, 4, "g"),
        )

    def test_each_sort(self):
        self.assertIsNone(self.house.move("lamp", 1, right=3, up=-4))
        self.assertIsNone(self.house.move(up=1, number=2, sort="lamp"))
        self.assertIsNone(self.house.move("post", 1, right=-1))
        self.assertIsNone(self.house.do(("move", "pane", 1, 10, 20)))
        self.assertEqual(self.house.lamps(), [
            (1, ((3, -4, 1, 1, 1),), True), (2, ((5, 1, 1, 1, 1), (-7, 4, 1, 1, 1)), True),
        ])
        self.assertEqual(self.house.posts(), [(1, (-3, -3, 3, 5))])
        self.assertEqual(self.house.panes(), [(1, ((11, 22), (7, 24)), "g")])
        self.assertEqual(self.house.deeds()[4:6], [("move", "lamp", 1, 3, -4), ("move", "lamp", 2, 0, 1)])

    def test_a_move_of_nothing_is_a_deed(self):
        self.assertIsNone(self.house.move("lamp", 1))
        self.assertEqual(self.house.undo(), ("move", "lamp", 1, 0, 0))

    def test_right_and_up_are_handed_in_by_name_alone(self):
        self.assertRaises(TypeError, self.house.move, "lamp", 1, 3, 4)

    def test_a_move_keeps_off_and_order(self):
        self.house.switch(1)
        self.house.move("lamp", 1, right=1)
        self.assertEqual([(row[0], row[2]) for row in self.house.lamps()], [(1, False), (2, True)])

    def test_refusals_in_order(self):
        for sort in ("look", "", "lamps", "Lamp"):
            self.refused(self.house, ("move", sort, 9, FAR * 3, 0), "BadSort")
        for sort, number in (("lamp", 3), ("lamp", 0), ("post", 2), ("pane", -1), ("pane", HUGE)):
            self.refused(self.house, ("move", sort, number, FAR * 3, 0), "NoThing", kind=sort, number=number)
        self.house.drop("post", 1)
        self.refused(self.house, ("move", "post", 1, 0, 0), "NoThing", kind="post", number=1)

    def test_places_of_all_choices(self):
        house = self.house
        self.refused(house, ("move", "lamp", 2, FAR - 4, 0), "BadPlace")
        self.refused(house, ("move", "lamp", 2, -FAR + 6, 0), "BadPlace")
        self.refused(house, ("move", "lamp", 2, 0, FAR - 2), "BadPlace")
        self.refused(house, ("move", "lamp", 2, 0, -FAR - 1), "BadPlace")
        self.refused(house, ("move", "lamp", 2, HUGE, 0), "BadPlace")
        for right, up in ((FAR - 5, 0), (-FAR + 7, 0), (0, FAR - 3), (0, -FAR)):
            self.assertIsNone(house.twin().move("lamp", 2, right=right, up=up))

    def test_places_of_posts_and_panes(self):
        for right, up in ((FAR - 3, 0), (-FAR + 1, 0), (0, FAR - 4), (0, -FAR + 2)):
            self.refused(self.house, ("move", "post", 1, right, up), "BadPlace")
        for right, up in ((FAR - 4, 0), (-FAR + 2, 0), (0, FAR - 5), (0, -FAR + 3)):
            self.assertIsNone(self.house.twin().move("post", 1, right=right, up=up))
        for right, up in ((FAR, 0), (-FAR + 2, 0), (0, FAR - 3), (0, -FAR - 3)):
            self.refused(self.house, ("move", "pane", 1, right, up), "BadPlace")
        for right, up in ((FAR - 1, 0), (-FAR + 3, 0), (0, FAR - 4), (0, -FAR - 2)):
            self.assertIsNone(self.house.twin().move("pane", 1, right=right, up=up))


class TestSwitchAndDrop(DeedTest):
    def test_switch(self):
        house = house_of(("lamp", 0, 0, 1, 1, 1), ("unsure", TestUnsure.choices[:2]))
        self.assertIsNone(house.switch(number=1))
        self.assertIsNone(house.do(("switch", 2)))
        self.assertEqual([on for number, choices, on in house.lamps()], [False, False])
        self.assertIsNone(house.switch(2))
        self.assertEqual([on for number, choices, on in house.lamps()], [False, True])
        for number in (0, 3, -1, HUGE):
            self.refused(house, ("switch", number), "NoThing", kind="lamp", number=number)

    def test_drop(self):
        house = house_of(("lamp", 0, 0, 1, 1, 1), ("post", 0, 0, 1, 1), ("pane", 0, 0, 1, 1, ""), ("lamp", 5, 5, 1, 1, 1))
        self.assertIsNone(house.drop("lamp", 1))
        self.assertIsNone(house.drop(number=1, sort="post"))
        self.assertIsNone(house.do(("drop", "pane", 1)))
        self.assertEqual((house.lamps(), house.posts(), house.panes()), ([(2, ((5, 5, 1, 1, 1),), True)], [], []))

    def test_numbers_go_on_behind_a_drop_and_come_back_behind_an_undo(self):
        house = House()
        for add, sort in (
            (lambda: house.lamp(0, 0), "lamp"), (lambda: house.post(0, 0), "post"),
            (lambda: house.pane((0, 0), (1, 1)), "pane"),
        ):
            self.assertEqual((house.coming(sort), add()), (1, 1))
            house.drop(sort, 1)
            self.assertEqual((house.coming(sort), add()), (2, 2))
            house.undo()
            self.assertEqual((house.coming(sort), add()), (2, 2))
            house.drop(sort, 2)
            house.undo()
            house.undo()
            house.undo()
            house.undo()
            self.assertEqual((house.coming(sort), add()), (1, 1))

    def test_refusals_in_order(self):
        house = house_of(("lamp", 0, 0, 1, 1, 1))
        for sort in ("look", "", "Lamp"):
            self.refused(house, ("drop", sort, 5), "BadSort")
        for sort, number in (("lamp", 2), ("post", 1), ("pane", 0)):
            self.refused(house, ("drop", sort, number), "NoThing", kind=sort, number=number)

    def test_looked(self):
        house = house_of(
            ("lamp", 0, 0, 1, 1, 1), ("look", 0, 0, 1, 1, 1), ("lamp", 1, 1, 1, 1, 1), ("post", 5, 5, 5, 5),
            ("switch", 2), ("look", 0, 0, 1, 1, 1), ("look", 0, 0, 1, 1, 1), ("lamp", 1, 1, 1, 1, 1),
        )
        self.refused(house, ("drop", "lamp", 1), "Looked", number=1)
        self.refused(house, ("drop", "lamp", 2), "Looked", number=2)
        self.refused(house, ("drop", "lamp", 4), "NoThing", kind="lamp", number=4)
        self.assertIsNone(house.drop("post", 1))
        self.assertIsNone(house.drop("lamp", 3))
        house.strike(2)
        self.refused(house, ("drop", "lamp", 2), "Looked", number=3)
        house.strike(3)
        self.assertIsNone(house.drop("lamp", 2))
        self.refused(house, ("drop", "lamp", 1), "Looked", number=1)
        house.strike(1)
        self.assertIsNone(house.drop("lamp", 1))


class TestLookStrikeSettle(DeedTest):
    def test_look(self):
        house = House()
        self.assertEqual(house.look(1, 2, (3, 4, 5)), 1)
        self.assertEqual(house.look(light=(0, 0, 0), up=2, across=1), 2)
        self.assertEqual(house.do(("look", -1, -2, 3, 4, 5)), 3)
        self.assertEqual(house.looks(), [(1, (1, 2), (3, 4, 5)), (2, (1, 2), (0, 0, 0)), (3, (-1, -2), (3, 4, 5))])
        self.assertEqual(house.deeds()[0], ("look", 1, 2, 3, 4, 5))

    def test_look_refusals_in_order(self):
        house = House()
        for place in ((FAR + 1, 0), (0, -FAR - 1)):
            self.refused(house, ("look", *place, -1, 0, 0), "BadPlace")
        for light in ((-1, 0, 0), (0, 12 * BRIGHT + 1, 0), (0, 0, HUGE)):
            self.refused(house, ("look", 0, 0, *light), "BadLight")
        for turn in range(23):
            house.look(FAR, -FAR, (12 * BRIGHT, 0, 12 * BRIGHT))
        self.assertEqual(house.look(0, 0, (0, 0, 0)), 24)
        self.refused(house, ("look", 0, 0, 0, 0, 0), "Full")
        self.refused(house, ("look", 0, 0, 0, 0, -1), "BadLight")
        self.refused(house, ("look", FAR + 1, 0, 0, 0, -1), "BadPlace")
        house.strike(7)
        self.assertEqual(house.look(0, 0, (0, 0, 0)), 25)

    def test_strike(self):
        house = house_of(("look", 0, 0, 1, 1, 1), ("look", 1, 1, 1, 1, 1))
        self.assertIsNone(house.strike(number=1))
        self.assertEqual(house.looks(), [(2, (1, 1), (1, 1, 1))])
        for number in (1, 0, 3, -1, HUGE):
            self.refused(house, ("strike", number), "NoLook", number=number)
        self.assertEqual((house.coming("look"), house.look(0, 0, (0, 0, 0))), (3, 3))
        self.assertIsNone(house.do(("strike", 3)))
        self.assertEqual(house.coming("look"), 4)
        house.undo()
        house.undo()
        self.assertEqual(house.coming("look"), 3)

    def test_settle(self):
        house = house_of(("unsure", TestUnsure.choices[:3]), ("lamp", 7, 7, 1, 1, 1), ("unsure", TestUnsure.choices[:2]))
        self.assertIsNone(house.settle(1, 2))
        self.assertIsNone(house.settle(3))
        self.assertIsNone(house.settle(at=0, number=2))
        self.assertEqual(house.lamps(), [
            (1, (TestUnsure.choices[2],), True), (2, ((7, 7, 1, 1, 1),), True), (3, (TestUnsure.choices[0],), True),
        ])
        self.assertEqual(house.deeds()[3:5], [("settle", 1, 2), ("settle", 3, 0)])
        self.assertEqual(house.settings(), [()])

    def test_settle_refusals_in_order(self):
        house = house_of(("unsure", TestUnsure.choices[:3]), ("lamp", 7, 7, 1, 1, 1))
        for number in (0, 3, -1):
            self.refused(house, ("settle", number, 9), "NoThing", kind="lamp", number=number)
        for number, at in ((1, 3), (1, -1), (2, 1), (2, -1), (1, HUGE)):
            self.refused(house, ("settle", number, at), "BadChoice")


class TestMany(DeedTest):
    def test_tells_what_each_tells(self):
        house = House()
        deeds = [
            ("lamp", 0, 0, 1, 1, 1), ("switch", 1), ("post", 0, 0, 1, 1), ("look", 0, 0, 0, 0, 0), ("strike", 1),
            ("unsure", TestUnsure.choices[:2]), ("settle", 2, 1), ("pane", 0, 0, 1, 1, ""), ("move", "pane", 1, 1, 1),
            ("drop", "post", 1),
        ]
        self.assertEqual(house.trial(deeds), [1, None, 1, 1, None, 2, None, 1, None, None])
        self.assertEqual(house.many(deeds), [1, None, 1, 1, None, 2, None, 1, None, None])
        self.assertEqual(house.deeds(), [("many", tuple(deeds))])
        self.assertEqual(house.undo(), ("many", tuple(deeds)))
        self.assertEqual(house, House())
        self.assertEqual(house.do(("many", tuple(deeds))), [1, None, 1, 1, None, 2, None, 1, None, None])

    def test_of_none(self):
        house = House()
        self.assertEqual(house.many([]), [])
        self.assertEqual(house.many(deeds=()), [])
        self.assertEqual(house.deeds(), [("many", ()), ("many", ())])
        house.undo()
        self.assertEqual(house.do(("many", ())), [])
        self.refused_ask(house, house.redo, "NothingLeft")

    def test_all_or_none(self):
        house = house_of(("lamp", 0, 0, 1, 1, 1))
        good = ("lamp", 1, 1, 1, 1, 1)
        self.refused(house, ("many", (good, ("switch", 5), ("lamp", FAR + 1, 0, 1, 1, 1))), "NoThing", kind="lamp", number=5)
        self.refused(house, ("many", (good, ("lamp", FAR + 1, 0, 1, 1, 1), ())), "BadPlace")
        self.refused(house, ("many", (good, (), ("lamp", FAR + 1, 0, 1, 1, 1))), "BadDeed")
        self.refused(house, ("many", (good, ("switch",))), "BadDeed")
        self.refused(house, ("many", (good, ("drop", "lamp", 2), ("switch", 2))), "NoThing", kind="lamp", number=2)
        self.assertEqual(house.coming("lamp"), 2)

    def test_a_many_within_goes_ahead_of_all_within(self):
        house = House()
        self.refused(house, ("many", (("lamp", FAR + 1, 0, 1, 1, 1), ("many", ()))), "BadDeed")
        self.refused(house, ("many", (("many", ()),)), "BadDeed")
        self.refused_ask(house, lambda: house.many([("switch", 9), ("many", (("switch", 9),))]), "BadDeed")
        self.refused_ask(house, lambda: house.trial([("switch", 9), ("many", (("switch", 9),))]), "BadDeed")

    def test_full_within(self):
        house = House()
        self.refused(house, ("many", (("lamp", 0, 0, 1, 1, 1),) * 13), "Full")
        self.assertEqual(house.many((("lamp", 0, 0, 1, 1, 1),) * 12), list(range(1, 13)))

    def test_numbers_that_came_within_can_be_spoken_of(self):
        house = House()
        self.assertEqual(house.many([("lamp", 0, 0, 1, 1, 1), ("move", "lamp", 1, 4, 5)]), [1, None])
        self.assertEqual(house.lamps(), [(1, ((4, 5, 1, 1, 1),), True)])

    def test_what_is_handed_in_stays_apart(self):
        house = House()
        deeds = [("lamp", 0, 0, 1, 1, 1)]
        choices = [(0, 0, 1, 1, 1), (1, 0, 1, 1, 1)]
        told = house.many(deeds)
        house.unsure(choices)
        told.append("more")
        deeds.append(("lamp", 1, 1, 1, 1, 1))
        choices.clear()
        self.assertEqual(house.deeds(), [
            ("many", (("lamp", 0, 0, 1, 1, 1),)), ("unsure", ((0, 0, 1, 1, 1), (1, 0, 1, 1, 1))),
        ])
        self.assertEqual(deeds, [("lamp", 0, 0, 1, 1, 1), ("lamp", 1, 1, 1, 1, 1)])
        house.undo()
        house.undo()
        house.redo()
        self.assertEqual(house.lamps(), [(1, ((0, 0, 1, 1, 1),), True)])


class Nosy(tuple):
    """Deeds that ask the house, while it does them, whether it is busy."""

    def __iter__(self):
        Nosy.seen.append(Nosy.house.busy())
        return super().__iter__()


class TestTrial(DeedTest):
    def test_everything_is_as_it_was(self):
        house = house_of(("lamp", 0, 0, 1, 1, 1), ("lamp", 1, 0, 1, 1, 1), ("post", 5, 5, 5, 5))
        house.undo()
        before = everything(house)
        self.assertEqual(house.trial([("lamp", 0, 0, 1, 1, 1), ("drop", "lamp", 1), ("look", 0, 0, 1, 1, 1)]), [3, None, 1])
        self.assertEqual(house.trial(deeds=()), [])
        self.assertEqual(everything(house), before)
        self.assertEqual(house.redo(), ("post", 5, 5, 5, 5))

    def test_refused_likewise(self):
        house = house_of(("lamp", 0, 0, 1, 1, 1), ("post", 5, 5, 5, 5))
        house.undo()
        for deeds in ([("lamp", 0, 0, 1, 1, 1), ("switch", 9)], [()], [("many", ())], [("lamp", 0, 0, 1, 1, 1)] * 12):
            told = outcome(house.twin().many, deeds)
            self.assertNotEqual(told[0], "told")
            self.refused_ask(house, lambda: house.trial(deeds), told[0], **told[1])
            self.assertIs(house.busy(), False)
        self.assertEqual(house.redo(), ("post", 5, 5, 5, 5))

    def test_busy(self):
        house = House()
        self.assertIs(house.busy(), False)
        Nosy.seen, Nosy.house = [], house
        house.trial(Nosy([("lamp", 0, 0, 1, 1, 1)]))
        self.assertIn(True, Nosy.seen)
        self.assertIs(house.busy(), False)
        house.many([("lamp", 0, 0, 1, 1, 1)])
        self.assertIs(house.busy(), False)


class TestUndoAndTwin(DeedTest):
    def test_until_nothing_is_left(self):
        deeds = [("lamp", 0, 0, 1, 1, 1), ("many", (("switch", 1), ("post", 0, 0, 1, 1))), ("move", "post", 1, 2, 2)]
        house = House()
        self.refused_ask(house, house.undo, "NothingLeft")
        self.refused_ask(house, house.redo, "NothingLeft")
        states = []
        for deed in deeds:
            states.append((house.lamps(), house.posts(), house.coming("lamp"), house.coming("post")))
            house.do(deed)
        for deed, state in zip(reversed(deeds), reversed(states)):
            self.assertEqual(house.undo(), deed)
            self.assertEqual((house.lamps(), house.posts(), house.coming("lamp"), house.coming("post")), state)
        self.refused_ask(house, house.undo, "NothingLeft")
        for at, deed in enumerate(deeds):
            self.assertEqual(house.redo(), deed)
            self.assertEqual(house.deeds(), deeds[:at + 1])
        self.refused_ask(house, house.redo, "NothingLeft")

    def test_another_deed_ends_what_can_be_done_again(self):
        house = house_of(("lamp", 0, 0, 1, 1, 1), ("lamp", 1, 1, 1, 1, 1), ("lamp", 2, 2, 1, 1, 1))
        house.undo()
        house.undo()
        house.lamp(5, 5)
        self.refused_ask(house, house.redo, "NothingLeft")
        self.assertEqual([row[1][0][:2] for row in house.lamps()], [(0, 0), (5, 5)])

    def test_a_refused_deed_does_not(self):
        house = house_of(("lamp", 0, 0, 1, 1, 1), ("lamp", 1, 1, 1, 1, 1))
        house.undo()
        for deed in ((), ("switch", 2), ("many", (("lamp", 5, 5, 1, 1, 1), ("switch", 9)))):
            self.assertNotEqual(outcome(house.do, deed)[0], "told")
        house.redo()
        self.assertEqual(len(house), 2)

    def test_a_drop_undone_stands_in_its_place(self):
        house = house_of(*[("lamp", at, 0, 1, 1, 1) for at in range(4)], ("drop", "lamp", 2), ("lamp", 9, 9, 1, 1, 1))
        house.undo()
        house.undo()
        self.assertEqual([row[0] for row in house.lamps()], [1, 2, 3, 4])

    def test_deeds_are_told_anew(self):
        house = house_of(("lamp", 0, 0, 1, 1, 1))
        house.deeds().clear()
        self.assertEqual(house.deeds(), [("lamp", 0, 0, 1, 1, 1)])

    def test_twins_go_their_own_ways(self):
        house = house_of(("lamp", 0, 0, 1, 1, 1), ("post", 0, 0, 1, 1), ("look", 5, 5, 0, 0, 0))
        house.undo()
        twin = house.twin()
        self.assertIsInstance(twin, House)
        self.assertEqual(everything(twin), everything(house))
        before = everything(house)
        self.assertEqual(twin.redo(), ("look", 5, 5, 0, 0, 0))
        self.assertEqual(twin.undo(), ("look", 5, 5, 0, 0, 0))
        twin.move("lamp", 1, right=4)
        twin.undo()
        twin.undo()
        twin.undo()
        self.refused_ask(twin, twin.undo, "NothingLeft")
        twin.pane((0, 0), (1, 1))
        self.assertEqual(everything(house), before)
        other = house.twin()
        seen = everything(other)
        house.redo()
        house.lamp(1, 1)
        house.undo()
        self.assertEqual(everything(other), seen)

    def test_houses_have_nothing_to_do_with_one_another(self):
        one, other = House(), House()
        one.lamp(0, 0)
        self.assertEqual(everything(other), everything(House()))


class TestTold(DeedTest):
    def test_told_lists_are_new(self):
        house = house_of(
            ("unsure", TestUnsure.choices[:2]), ("post", 0, 0, 1, 1), ("pane", 0, 0, 1, 1, "r"), ("look", 9, 9, 0, 0, 0)
        )
        before = everything(house)
        for ask in (
            house.lamps, house.posts, house.panes, house.looks, house.deeds, house.settings, house.fits,
            lambda: house.left(1), lambda: house.lights(5, 5),
        ):
            told = ask()
            self.assertIs(type(told), list)
            told.append("more")
            self.assertEqual(ask(), told[:-1])
        self.assertEqual(everything(house), before)

    def test_rows_are_tuples(self):
        house = house_of(
            ("unsure", TestUnsure.choices[:2]), ("post", 0, 0, 1, 1), ("pane", 0, 0, 1, 1, "r"), ("look", 9, 9, 0, 0, 0)
        )
        self.assertEqual(house.panes(), [(1, ((0, 0), (1, 1)), "r")])
        self.assertEqual(house.lamps(), [(1, TestUnsure.choices[:2], True)])
        for ask in (house.lamps, house.posts, house.panes, house.looks, house.deeds, house.settings):
            self.assertEqual({type(row) for row in ask()}, {tuple})

    def test_coming(self):
        house = house_of(("lamp", 0, 0, 1, 1, 1), ("look", 0, 0, 1, 1, 1), ("look", 0, 0, 1, 1, 1))
        self.assertEqual([house.coming(sort) for sort in ("lamp", "post", "pane", "look")], [2, 1, 1, 3])
        self.assertEqual(house.coming(sort="lamp"), 2)
        for sort in ("", "looks", "Lamp", "deed"):
            self.refused_ask(house, lambda: house.coming(sort), "BadSort")


class TestByAnotherWay(DeedTest):
    def wild_deed(self, chance):
        """A deed some of whose numbers are at its bounds, beyond them, or whose form is another one."""
        deed = list(plainhouse.some_deed(chance))
        if deed[0] == "unsure" and chance.random() < 0.3:
            choices = [list(choice) for choice in deed[1]]
            choice = chance.choice(choices)
            choice[chance.randrange(5)] = chance.choice((FAR, FAR + 1, -FAR, -FAR - 1, -1))
            deed[1] = tuple(tuple(choice) for choice in choices) * chance.choice((1, 1, 1, 2))
        elif deed[0] != "unsure" and chance.random() < 0.3:
            at = chance.randrange(1, len(deed))
            if isinstance(deed[at], str):
                deed[at] = chance.choice(("look", "rbg", "", "lamp", "post"))
            else:
                deed[at] = chance.choice((FAR, FAR + 1, -FAR, -FAR - 1, -1, 0, 2 * FAR, 12 * BRIGHT, 12 * BRIGHT + 1, HUGE))
        if chance.random() < 0.05:
            deed = deed[:-1] if chance.random() < 0.5 else deed + [1]
        return tuple(deed)

    def wild_turn(self, chance, house, plain):
        pick = chance.random()
        if pick < 0.1:
            self.assertEqual(outcome(house.undo), outcome(plain.undo))
        elif pick < 0.2:
            self.assertEqual(outcome(house.redo), outcome(plain.redo))
        elif pick < 0.3:
            deeds = tuple(self.wild_deed(chance) for turn in range(chance.randint(0, 4)))
            self.assertEqual(outcome(house.trial, deeds), outcome(plainhouse.copy.deepcopy(plain).do, ("many", deeds)))
            self.assertEqual(outcome(house.do, ("many", deeds)), outcome(plain.do, ("many", deeds)), house.deeds())
        else:
            deed = self.wild_deed(chance)
            self.assertEqual(outcome(house.do, deed), outcome(plain.do, deed), (house.deeds(), deed))

    def test_wild_deeds(self):
        met = set()
        for seed in range(40):
            chance = plainhouse.seeded(seed)
            house, plain = House(), plainhouse.PlainHouse()
            for turn in range(50):
                self.wild_turn(chance, house, plain)
                for ask in ("lamps", "posts", "panes", "looks"):
                    self.assertEqual(getattr(house, ask)(), getattr(plain, ask)(), (seed, turn, house.deeds()))
                coming = {sort: house.coming(sort) for sort in ("lamp", "post", "pane", "look")}
                self.assertEqual(coming, plain.now["next"])
                self.assertEqual(house.deeds(), [deed for deed, before in plain.past])
            self.assertEqual(house.fits(), plain.fits(), (seed, house.deeds()))
            met.add(len(house.fits()) > 0)
        self.assertEqual(met, {True, False})


if __name__ == "__main__":
    unittest.main()
