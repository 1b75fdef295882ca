"""Looks, settings that fit, clashes, and the floors that looks were written on."""

import itertools
import unittest

import plainhouse
from making import THREE, TWO, house_of

from hueshade.errors import BadPlace, NoLook, NoThing
from hueshade.house import House
from hueshade.numbers import FAR


def looked_houses(seeds, true_share=0.8):
    """Houses with open lamps and looks, most of them true of one setting, on floors that change."""
    for seed in seeds:
        chance = plainhouse.seeded(seed)
        deeds = plainhouse.some_house(chance, [], lamps=1, opens=2, posts=2, panes=2)
        house, plain = plainhouse.both_of(deeds, House)
        setting = chance.choice(house.settings())
        for turn in range(chance.randint(1, 8)):
            place = (chance.randint(-6, 6), chance.randint(-6, 6))
            if chance.random() < true_share and len(setting) == len(plainhouse.counts(plain.now)):
                deed = ("look", *place, *plainhouse.light(plain.now, setting, place))
            else:
                deed = plainhouse.some_deed(chance)
            if deed[0] == "settle":
                continue
            try:
                plain.do(deed)
            except plainhouse.Refused:
                continue
            house.do(deed)
            deeds.append(deed)
        yield chance, deeds, house, plain


class TestFits(unittest.TestCase):
    def test_settings_stand_in_order(self):
        house = house_of(("unsure", TWO), ("lamp", 5, 5, 1, 1, 1), ("unsure", THREE))
        told = [(0, 0), (0, 1), (0, 2), (1, 0), (1, 1), (1, 2)]
        self.assertEqual(house.settings(), told)
        self.assertEqual(house.fits(), told)
        self.assertEqual(House().settings(), [()])
        self.assertEqual(House().fits(), [()])

    def test_a_look_leaves_what_it_meets(self):
        house = house_of(("unsure", TWO), ("unsure", THREE), ("look", 5, 5, 0, 11, 0))
        self.assertEqual(house.fits(), [(1, 1)])
        self.assertIsNone(house.clash())
        house.strike(1)
        self.assertEqual(len(house.fits()), 6)

    def test_a_wrong_look_of_known_lamps(self):
        house = house_of(("lamp", 0, 0, 1, 1, 1), ("look", 5, 5, 1, 1, 2))
        self.assertEqual(house.fits(), [])
        self.assertEqual(house.clash(), [1])
        self.assertEqual(house.settings(), [()])

    def test_looks_speak_of_the_floor_that_stood_then(self):
        house = house_of(("unsure", TWO), ("post", 4, 0, 4, 0), ("look", 2, 0, 1, 0, 0))
        self.assertEqual(house.fits(), [(0,)])
        house.drop("post", 1)
        house.move("lamp", 1, right=3, up=7)
        house.switch(1)
        house.pane((0, 0), (9, 9))
        house.lamp(0, 0)
        house.unsure(THREE)
        self.assertEqual(house.fits(), [(0, 0), (0, 1), (0, 2)])
        self.assertEqual(house.floor_of(1).light(2, 0, setting=(0,)), (1, 0, 0))

    def test_lamps_of_later_stay_free(self):
        house = house_of(("unsure", THREE), ("look", 5, 5, 0, 10, 0), ("unsure", TWO))
        self.assertEqual(house.fits(), [(1, 0), (1, 1)])
        self.assertEqual((house.left(1), house.left(2)), ([1], [0, 1]))

    def test_a_look_without_lamps(self):
        house = house_of(("look", 5, 5, 0, 0, 0), ("unsure", TWO))
        self.assertEqual(house.fits(), [(0,), (1,)])
        house.undo()
        house.look(5, 5, (0, 0, 1))
        self.assertEqual(house.fits(), [])
        self.assertEqual(house.clash(), [2])

    def test_settle_also_where_earlier_looks_speak_of_it(self):
        house = house_of(("unsure", TWO), ("look", 5, 5, 0, 1, 0), ("move", "lamp", 1, 2, 2), ("settle", 1, 0))
        self.assertEqual(house.fits(), [])
        self.assertEqual(house.clash(), [1])
        self.assertEqual(house.left(1), [])
        house.undo()
        self.assertEqual(house.fits(), [(1,)])
        house.settle(1, 1)
        self.assertEqual(house.fits(), [()])
        self.assertEqual(house.left(1), [0])

    def test_by_going_through_all_settings(self):
        sizes = set()
        for chance, deeds, house, plain in looked_houses(range(120)):
            self.assertEqual(house.settings(), plainhouse.settings(plain.now), deeds)
            self.assertEqual(house.fits(), plain.fits(), deeds)
            sizes.add(min(len(house.fits()), 2))
            for number, choices, on in house.lamps():
                self.assertEqual(house.left(number), plain.left(number), (deeds, number))
            for turn in range(3):
                place = (chance.randint(-6, 6), chance.randint(-6, 6))
                self.assertEqual(house.lights(*place), plain.lights(place), (deeds, place))
        self.assertEqual(sizes, {0, 1, 2})

    def test_looks_are_told(self):
        house = house_of(("look", 1, 2, 3, 4, 5), ("lamp", 0, 0, 1, 1, 1), ("look", 3, 2, 1, 1, 1))
        self.assertEqual(house.looks(), [(1, (1, 2), (3, 4, 5)), (2, (3, 2), (1, 1, 1))])


class TestClash(unittest.TestCase):
    def check(self, house, plain, deeds):
        told = house.clash()
        if plain.fits():
            self.assertIsNone(told, deeds)
            return
        self.assertEqual(told, sorted(set(told)), deeds)
        self.assertTrue(set(told) <= set(plain.now["look"]), deeds)
        self.assertEqual(plain.fits(told), [], deeds)
        for number in told:
            self.assertNotEqual(plain.fits([other for other in told if other != number]), [], (deeds, number))

    def test_none_of_looks_alone(self):
        self.assertIsNone(House().clash())

    def test_two_that_clash(self):
        house = house_of(("unsure", TWO), ("look", 5, 5, 1, 0, 0), ("look", 6, 6, 1, 0, 0), ("look", 7, 7, 0, 1, 0))
        self.assertIn(house.clash(), ([1, 3], [2, 3]))

    def test_three_that_clash_only_together(self):
        house = house_of(
            ("unsure", ((0, 0, 1, 1, 0), (0, 0, 1, 0, 1), (0, 0, 0, 1, 1))), ("pane", 5, -9, 5, 9, "r"),
            ("pane", -5, -9, -5, 9, "g"), ("pane", -4, 5, 4, 5, "b"),
            ("look", 8, 0, 1, 0, 0), ("look", -8, 0, 0, 1, 0), ("look", 0, 8, 0, 0, 1),
        )
        self.assertEqual(house.fits(), [])
        self.assertEqual(house.clash(), [1, 2, 3])

    def test_by_going_through_all_looks(self):
        for chance, deeds, house, plain in looked_houses(range(200, 260), true_share=0.6):
            self.check(house, plain, deeds)

    def test_looks_that_are_each_true_of_some_setting(self):
        lengths = set()
        for seed in range(60):
            chance = plainhouse.seeded(seed)
            deeds = plainhouse.some_house(chance, [], lamps=0, opens=3, posts=1, panes=2)
            house, plain = plainhouse.both_of(deeds, House)
            for turn in range(6):
                place = (chance.randint(-6, 6), chance.randint(-6, 6))
                light = plainhouse.light(plain.now, chance.choice(plainhouse.settings(plain.now)), place)
                self.assertEqual(house.look(*place, light), plain.do(("look", *place, *light)))
            self.check(house, plain, deeds)
            lengths.add(len(house.clash() or ()))
        self.assertTrue({0, 2} <= lengths, lengths)

    def test_told_list_is_new(self):
        house = house_of(("look", 5, 5, 1, 0, 0))
        house.clash().append(7)
        self.assertEqual(house.clash(), [1])


class TestLeftAndLights(unittest.TestCase):
    def test_left(self):
        house = house_of(("lamp", 5, 5, 0, 0, 0), ("unsure", THREE), ("look", 2, 2, 10, 0, 0))
        self.assertEqual((house.left(1), house.left(2)), ([0], [0]))
        house.strike(1)
        self.assertEqual((house.left(1), house.left(number=2)), ([0], [0, 1, 2]))
        house.look(2, 2, (5, 5, 5))
        self.assertEqual((house.left(1), house.left(2)), ([], []))

    def test_left_of_no_lamp(self):
        house = house_of(("lamp", 0, 0, 1, 1, 1), ("post", 0, 0, 1, 1), ("lamp", 0, 0, 1, 1, 1), ("drop", "lamp", 1))
        for number in (0, 1, 3, -1, 10 ** 29):
            with self.assertRaises(NoThing) as caught:
                house.left(number)
            self.assertEqual((caught.exception.kind, caught.exception.number), ("lamp", number))

    def test_lights(self):
        house = house_of(("unsure", TWO), ("unsure", TWO))
        self.assertEqual(house.lights(5, 5), [(0, 2, 0), (1, 1, 0), (2, 0, 0)])
        self.assertEqual(house.lights(up=5, across=5), [(0, 2, 0), (1, 1, 0), (2, 0, 0)])
        house.look(5, 5, (1, 1, 0))
        self.assertEqual(house.lights(7, 7), [(1, 1, 0)])
        house.look(5, 5, (1, 1, 1))
        self.assertEqual(house.lights(7, 7), [])
        self.assertEqual(House().lights(0, 0), [(0, 0, 0)])

    def test_lights_of_no_place(self):
        house = house_of(("unsure", TWO))
        for place in ((FAR + 1, 0), (0, -FAR - 1)):
            self.assertRaises(BadPlace, house.lights, *place)
        self.assertEqual(house.lights(FAR, -FAR), [(0, 1, 0), (1, 0, 0)])


class TestFloorOf(unittest.TestCase):
    def setUp(self):
        self.house = house_of(
            ("unsure", THREE), ("lamp", 1, 1, 1, 1, 1), ("switch", 2), ("post", 3, 3, 4, 4), ("pane", 0, 5, 5, 0, "r"),
            ("look", 7, 7, 0, 0, 0), ("move", "lamp", 1, 1, 1), ("switch", 2), ("drop", "post", 1),
            ("move", "pane", 1, 0, 9), ("lamp", 8, 8, 1, 1, 1), ("post", 0, 0, 0, 0), ("look", 7, 7, 0, 0, 0),
        )

    def test_things_that_stood(self):
        floor = self.house.floor_of(1)
        self.assertIsInstance(floor, House)
        self.assertEqual(floor.lamps(), [(1, THREE, True), (2, ((1, 1, 1, 1, 1),), False)])
        self.assertEqual(floor.posts(), [(1, (3, 3, 4, 4))])
        self.assertEqual(floor.panes(), [(1, ((0, 5), (5, 0)), "r")])
        self.assertEqual(self.house.floor_of(number=2).lamps(), self.house.lamps())

    def test_no_looks_and_nothing_to_undo(self):
        floor = self.house.floor_of(1)
        self.assertEqual((floor.looks(), floor.deeds(), str(floor)), ([], [], ""))
        with self.assertRaises(LookupError):
            floor.undo()
        with self.assertRaises(LookupError):
            floor.redo()
        self.assertEqual(repr(floor), "House(2 lamps, 1 posts, 1 panes)")

    def test_numbers_that_come_next_here_now(self):
        floor = self.house.floor_of(1)
        self.assertEqual([floor.coming(sort) for sort in ("lamp", "post", "pane", "look")], [4, 3, 2, 3])
        self.assertEqual((floor.lamp(0, 0), floor.look(0, 0, (0, 0, 0))), (4, 3))

    def test_choices_that_are_left_now(self):
        self.house.settle(1, 1)
        self.assertEqual(self.house.floor_of(1).lamps()[0], (1, (THREE[1],), True))
        self.assertEqual(self.house.floor_of(2).lamps()[0], (1, ((10, 1, 0, 10, 0),), True))
        self.house.undo()
        self.assertEqual(self.house.floor_of(1).lamps()[0], (1, THREE, True))

    def test_told_floor_is_apart(self):
        twin = self.house.twin()
        floor = self.house.floor_of(1)
        floor.drop("lamp", 1)
        floor.post(9, 9)
        floor.look(0, 0, (1, 1, 1))
        self.assertEqual(self.house, twin)
        self.assertEqual(self.house.deeds(), twin.deeds())
        self.assertEqual(len(self.house.floor_of(1)), 4)
        self.house.settle(1, 2)
        self.assertEqual([row[0] for row in floor.lamps()], [2])

    def test_floors_of_a_floor(self):
        floor = self.house.floor_of(1)
        with self.assertRaises(NoLook) as caught:
            floor.floor_of(1)
        self.assertEqual(caught.exception.number, 1)

    def test_no_look(self):
        self.house.strike(1)
        for number in (1, 0, 3, -1, 10 ** 29):
            with self.assertRaises(NoLook) as caught:
                self.house.floor_of(number)
            self.assertEqual(caught.exception.number, number)

    def test_by_another_way(self):
        for chance, deeds, house, plain in looked_houses(range(400, 440)):
            for number in plain.now["look"]:
                stood = plain.now["look"][number][2]
                floor = house.floor_of(number)
                self.assertEqual(floor.lamps(), [(lamp, *stood["lamp"][lamp]) for lamp in sorted(stood["lamp"])])
                self.assertEqual(floor.posts(), sorted(stood["post"].items()))
                self.assertEqual(len(floor), sum(len(stood[sort]) for sort in ("lamp", "post", "pane")))


class TestChangingFloors(unittest.TestCase):
    def test_same_looks_in_another_order(self):
        looks = [("look", 5, 5, 1, 10, 0), ("look", 2, 0, 1, 10, 0), ("look", 7, 1, 1, 0, 0)]
        for order in itertools.permutations(looks):
            house = house_of(("unsure", TWO), ("unsure", THREE), ("post", 6, 1, 6, 1), *order)
            plain = plainhouse.both_of(house.deeds(), House)[1]
            self.assertEqual(house.fits(), plain.fits(), order)


if __name__ == "__main__":
    unittest.main()
