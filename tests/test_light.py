"""What comes to a point, reasons, stretches along a line and the light at a share of it."""

import unittest
from fractions import Fraction

import plainhouse
import plainly
from making import house_of

from hueshade.errors import BadPiece, BadPlace, BadSetting, Unknown
from hueshade.house import WHITE, House
from hueshade.numbers import FAR


def small_houses(seeds, **sizes):
    for seed in seeds:
        chance = plainhouse.seeded(seed)
        deeds = plainhouse.some_house(chance, [], **sizes)
        house, plain = plainhouse.both_of(deeds, House)
        yield chance, deeds, house, plain


def some_line(chance, reach=8):
    while True:
        line = tuple((chance.randint(-reach, reach), chance.randint(-reach, reach)) for end in range(2))
        if line[0] != line[1]:
            return line


class TestLight(unittest.TestCase):
    def test_a_lamp_alone(self):
        house = House()
        house.lamp(0, 0)
        self.assertEqual(WHITE, (9, 9, 9))
        self.assertEqual(house.light(5, 5), (9, 9, 9))
        self.assertEqual(house.light(0, 0), (9, 9, 9))

    def test_no_lamp(self):
        house = house_of(("post", 0, 0, 1, 1))
        self.assertEqual(house.light(0, 0), (0, 0, 0))
        self.assertEqual(house.reasons(0, 0), [])
        self.assertEqual(house.along((0, 0), (4, 4)), [((0, 1), True, (1, 1), True, (0, 0, 0))])
        self.assertEqual(house.share_light((0, 0), (4, 4), (1, 2)), (0, 0, 0))

    def test_lights_are_added(self):
        house = house_of(("lamp", 0, 0, 1, 2, 3), ("lamp", 4, 4, 10, 0, 30))
        self.assertEqual(house.light(2, 7), (11, 2, 33))

    def test_sums_go_beyond_bright(self):
        house = house_of(*[("lamp", 0, 0, 1000000, 1000000, 0)] * 12)
        self.assertEqual(house.light(1, 1), (12000000, 12000000, 0))

    def test_a_lamp_that_is_off_brings_nothing_and_has_no_reason(self):
        house = house_of(("lamp", 0, 0, 1, 2, 3), ("lamp", 4, 4, 10, 20, 30), ("switch", 1))
        self.assertEqual(house.light(2, 2), (10, 20, 30))
        self.assertEqual(house.reasons(2, 2), [(2, (10, 20, 30), [])])
        house.switch(1)
        self.assertEqual(house.light(2, 2), (11, 22, 33))

    def test_a_post_stops_all(self):
        house = house_of(("lamp", 0, 0, 1, 2, 3), ("post", 2, -1, 3, 1))
        self.assertEqual(house.light(5, 0), (0, 0, 0))
        self.assertEqual(house.light(0, 5), (1, 2, 3))
        self.assertEqual(house.light(2, 0), (0, 0, 0))

    def test_a_post_that_is_a_point_or_a_wall(self):
        house = house_of(("lamp", 0, 0, 1, 2, 3), ("post", 2, 2, 2, 2), ("post", -3, 1, -3, 5))
        self.assertEqual(house.light(4, 4), (0, 0, 0))
        self.assertEqual(house.light(4, 3), (1, 2, 3))
        self.assertEqual(house.light(1, 1), (1, 2, 3))
        self.assertEqual(house.light(2, 2), (0, 0, 0))
        self.assertEqual(house.light(-6, 2), (0, 0, 0))
        self.assertEqual(house.light(-6, 1), (1, 2, 3))

    def test_ways_through_corners_and_ends(self):
        house = house_of(("lamp", 0, 0, 1, 2, 3), ("post", 2, 1, 4, 1), ("pane", 1, -1, 3, -3, "r"))
        self.assertEqual(house.light(4, 2), (0, 0, 0))
        self.assertEqual(house.light(5, 2), (0, 0, 0))
        self.assertEqual(house.light(9, 2), (1, 2, 3))
        self.assertEqual(house.light(5, -5), (1, 0, 0))

    def test_panes_sift_once_each_and_together(self):
        house = house_of(
            ("lamp", 0, 0, 4, 5, 6), ("pane", 1, -5, 1, 5, "rg"), ("pane", 2, -5, 2, 5, "gb"), ("pane", 3, 0, 9, 0, "rgb")
        )
        self.assertEqual(house.light(1, 3), (4, 5, 0))
        self.assertEqual(house.light(5, 0), (0, 5, 0))
        self.assertEqual(house.light(5, 1), (0, 5, 0))
        self.assertEqual(house.light(-5, 1), (4, 5, 6))

    def test_an_empty_sift_lets_nothing_by(self):
        house = house_of(("lamp", 0, 0, 4, 5, 6), ("pane", 1, -5, 1, 5, ""))
        self.assertEqual(house.light(1, 0), (0, 0, 0))
        self.assertEqual(house.light(0, 0), (4, 5, 6))

    def test_a_lamp_in_a_post_or_on_a_pane(self):
        house = house_of(("lamp", 0, 0, 4, 5, 6), ("post", -1, -1, 1, 1))
        self.assertEqual(house.light(0, 0), (0, 0, 0))
        self.assertEqual(house.light(9, 9), (0, 0, 0))
        house = house_of(("lamp", 0, 0, 4, 5, 6), ("pane", -1, -1, 1, 1, "g"))
        self.assertEqual(house.light(0, 0), (0, 5, 0))
        self.assertEqual(house.light(9, 0), (0, 5, 0))
        self.assertEqual(house.reasons(0, 0), [(1, (0, 5, 0), [("pane", 1)])])

    def test_far_places(self):
        house = house_of(("lamp", -FAR, -FAR, 1, 2, 3), ("post", 0, 0, 0, 0), ("pane", FAR - 1, FAR, FAR, FAR - 1, "b"))
        self.assertEqual(house.light(FAR, FAR), (0, 0, 0))
        self.assertEqual(house.light(FAR, FAR - 1), (0, 0, 3))
        self.assertEqual(house.light(FAR, FAR - 2), (1, 2, 3))
        self.assertEqual(house.light(FAR, -FAR), (1, 2, 3))

    def test_an_open_lamp_under_its_settings(self):
        house = house_of(("unsure", ((0, 0, 1, 0, 0), (9, 0, 0, 1, 0))), ("lamp", 5, 5, 0, 0, 1), ("post", 4, 0, 4, 0))
        self.assertEqual(house.light(2, 0, setting=(0,)), (1, 0, 1))
        self.assertEqual(house.light(2, 0, setting=(1,)), (0, 0, 1))
        self.assertEqual(house.light(6, 0, setting=(1,)), (0, 1, 1))

    def test_all_by_another_way(self):
        for chance, deeds, house, plain in small_houses(range(60), opens=1):
            for setting in house.settings():
                for point in [(chance.randint(-7, 7), chance.randint(-7, 7)) for turn in range(6)]:
                    told = house.light(*point, setting=setting)
                    self.assertEqual(told, plainhouse.light(plain.now, setting, point), (deeds, setting, point))

    def test_points_at_lamps_by_another_way(self):
        for chance, deeds, house, plain in small_houses(range(100, 140), posts=5, panes=5):
            for number, choices, on in house.lamps():
                point = choices[0][:2]
                self.assertEqual(house.light(*point), plainhouse.light(plain.now, (), point), (deeds, point))
                self.assertEqual(house.reasons(*point), plainhouse.reasons(plain.now, (), point), (deeds, point))


class TestSettings(unittest.TestCase):
    def setUp(self):
        self.known = house_of(("lamp", 0, 0, 1, 2, 3))
        self.open = house_of(
            ("unsure", ((0, 0, 1, 0, 0), (1, 0, 2, 0, 0))), ("lamp", 0, 0, 0, 1, 0),
            ("unsure", ((0, 0, 10, 0, 0), (1, 0, 20, 0, 0), (2, 0, 30, 0, 0))),
        )

    def asked(self, house, **setting):
        return (
            lambda: house.light(5, 5, **setting), lambda: house.reasons(5, 5, **setting),
            lambda: house.along((0, 5), (5, 5), **setting), lambda: house.share_light((0, 5), (5, 5), (1, 1), **setting),
        )

    def test_none_left_out_and_empty_are_the_same_without_open_lamps(self):
        told = [ask() for ask in self.asked(self.known)]
        self.assertEqual(told, [ask() for ask in self.asked(self.known, setting=None)])
        self.assertEqual(told, [ask() for ask in self.asked(self.known, setting=())])
        self.assertEqual(told[0], (1, 2, 3))

    def test_none_is_unknown_where_a_lamp_is_open(self):
        for ask in (*self.asked(self.open), *self.asked(self.open, setting=None)):
            self.assertRaises(Unknown, ask)

    def test_off_lamps_are_open_too(self):
        self.open.switch(1)
        self.open.switch(3)
        for ask in self.asked(self.open):
            self.assertRaises(Unknown, ask)
        self.assertEqual(self.open.light(5, 5, setting=(1, 2)), (0, 1, 0))

    def test_wrong_settings(self):
        wrong = ((), (0,), (0, 0, 0), (2, 0), (0, 3), (-1, 0), (0, -1), (10 ** 29, 0))
        for setting in wrong:
            for ask in self.asked(self.open, setting=setting):
                self.assertRaises(BadSetting, ask)
        for setting in ((0,), (0, 0)):
            for ask in self.asked(self.known, setting=setting):
                self.assertRaises(BadSetting, ask)

    def test_places_in_their_choices_by_the_numbers_of_lamps(self):
        told = [self.open.light(5, 5, setting=(one, other))[0] for one in range(2) for other in range(3)]
        self.assertEqual(told, [11, 21, 31, 12, 22, 32])

    def test_a_settled_lamp_is_no_longer_in_the_setting(self):
        self.open.settle(1, 1)
        self.assertEqual(self.open.light(5, 5, setting=(2,)), (32, 1, 0))
        self.assertRaises(BadSetting, self.open.light, 5, 5, setting=(1, 2))


class TestRefusals(unittest.TestCase):
    def setUp(self):
        self.open = house_of(("unsure", ((0, 0, 1, 0, 0), (1, 0, 2, 0, 0))))

    def test_places_of_points(self):
        for place in ((FAR + 1, 0), (0, FAR + 1), (-FAR - 1, 0), (0, -FAR - 1), (10 ** 29, 0)):
            for setting in (None, (), (0,), (5,)):
                self.assertRaises(BadPlace, self.open.light, *place, setting=setting)
                self.assertRaises(BadPlace, self.open.reasons, *place, setting=setting)
        for place in ((FAR, 0), (0, FAR), (-FAR, 0), (0, -FAR)):
            self.assertEqual(self.open.light(*place, setting=(0,)), (1, 0, 0))

    def test_places_of_lines_go_ahead_of_all(self):
        wrong = (FAR + 1, 0)
        for one, other in ((wrong, (0, 0)), ((0, 0), wrong), (wrong, wrong)):
            for setting in (None, (), (0,)):
                self.assertRaises(BadPlace, self.open.along, one, other, setting=setting)
                self.assertRaises(BadPlace, self.open.share_light, one, other, (2, 1), setting=setting)

    def test_a_line_of_one_place_goes_ahead_of_the_setting(self):
        for setting in (None, (), (0,)):
            self.assertRaises(BadPiece, self.open.along, (1, 1), (1, 1), setting=setting)
            self.assertRaises(BadPiece, self.open.share_light, (1, 1), (1, 1), (2, 1), setting=setting)

    def test_a_wrong_share_goes_ahead_of_the_setting(self):
        for share in ((2, 1), (-1, 1), (-1, 10 ** 29), (10 ** 29 + 1, 10 ** 29)):
            for setting in (None, (0,)):
                self.assertRaises(BadSetting, self.open.share_light, (0, 0), (1, 1), share, setting=setting)
        self.assertRaises(Unknown, self.open.share_light, (0, 0), (1, 1), (1, 1))

    def test_what_is_refused_changes_nothing(self):
        before = self.open.twin()
        self.assertRaises(Unknown, self.open.light, 0, 0)
        self.assertEqual(self.open, before)
        self.assertEqual(self.open.deeds(), before.deeds())


class TestReasons(unittest.TestCase):
    def test_things_stand_as_they_are_met(self):
        house = house_of(
            ("lamp", 0, 0, 1, 2, 3), ("pane", 6, -1, 6, 1, "rgb"), ("post", 4, -1, 5, 1), ("pane", 2, -1, 2, 1, "r"),
            ("post", 7, 3, 8, 4),
        )
        self.assertEqual(house.reasons(9, 0), [(1, (0, 0, 0), [("pane", 2), ("post", 1), ("pane", 1)])])
        self.assertEqual(house.reasons(3, 0), [(1, (1, 0, 0), [("pane", 2)])])
        self.assertEqual(house.reasons(0, 3), [(1, (1, 2, 3), [])])

    def test_from_the_other_side(self):
        house = house_of(("lamp", 9, 0, 1, 2, 3), ("post", 4, -1, 5, 1), ("pane", 2, -1, 2, 1, "r"))
        self.assertEqual(house.reasons(0, 0), [(1, (0, 0, 0), [("post", 1), ("pane", 1)])])

    def test_same_share_posts_ahead_then_lesser_numbers(self):
        house = house_of(
            ("lamp", 0, 0, 1, 2, 3), ("pane", 2, -1, 2, 1, "r"), ("post", 2, 0, 5, 0), ("pane", 1, 1, 3, -1, "g"),
            ("post", 2, -2, 3, 2), ("post", 1, 0, 1, 0),
        )
        self.assertEqual(
            house.reasons(9, 0),
            [(1, (0, 0, 0), [("post", 3), ("post", 1), ("post", 2), ("pane", 1), ("pane", 2)])],
        )

    def test_a_pane_along_the_way_is_met_where_it_begins(self):
        house = house_of(("lamp", 0, 0, 1, 2, 3), ("pane", 5, 0, 3, 0, "r"), ("pane", 4, 1, 4, -1, "r"))
        self.assertEqual(house.reasons(9, 0), [(1, (1, 0, 0), [("pane", 1), ("pane", 2)])])
        house = house_of(("lamp", 4, 0, 1, 2, 3), ("pane", 5, 0, 3, 0, "r"), ("post", 4, 0, 4, 0))
        self.assertEqual(house.reasons(4, 0), [(1, (0, 0, 0), [("post", 1), ("pane", 1)])])

    def test_shares_that_are_hardly_unlike(self):
        house = house_of(
            ("lamp", -FAR, -FAR, 1, 2, 3), ("pane", FAR - 1, -FAR, FAR - 2, FAR, "rg"),
            ("pane", FAR - 2, FAR, FAR - 1, -FAR + 1, "gb"),
        )
        told = house.reasons(FAR, -FAR + 1)
        plain = plainhouse.PlainHouse()
        for deed in house.deeds():
            plain.do(deed)
        self.assertEqual(told, plainhouse.reasons(plain.now, (), (FAR, -FAR + 1)))

    def test_by_another_way(self):
        for chance, deeds, house, plain in small_houses(range(200, 260), posts=4, panes=4, opens=1):
            for setting in house.settings():
                for point in [(chance.randint(-7, 7), chance.randint(-7, 7)) for turn in range(5)]:
                    told = house.reasons(*point, setting=setting)
                    self.assertEqual(told, plainhouse.reasons(plain.now, setting, point), (deeds, setting, point))

    def test_told_lists_are_new(self):
        house = house_of(("lamp", 0, 0, 1, 2, 3), ("post", 1, 0, 1, 0))
        told = house.reasons(3, 0)
        told[0][2].append("more")
        told.append("more")
        self.assertEqual(house.reasons(3, 0), [(1, (0, 0, 0), [("post", 1)])])


class TestAlong(unittest.TestCase):
    def check_form(self, told):
        self.assertIs(type(told), list)
        self.assertEqual((told[0][:2], told[-1][2:4]), (((0, 1), True), ((1, 1), True)))
        for start, start_in, end, end_in, light in told:
            self.assertIs(type(start_in), bool)
            self.assertIs(type(end_in), bool)
            self.assertLessEqual(Fraction(*start), Fraction(*end))
            if start == end:
                self.assertTrue(start_in and end_in)
        for one, other in zip(told, told[1:]):
            self.assertEqual(one[2], other[0])
            self.assertNotEqual(one[3], other[1])
            self.assertNotEqual(one[4], other[4])

    def test_a_shade_with_its_ends(self):
        house = house_of(("lamp", 0, 0, 1, 2, 3), ("post", -1, 5, 1, 6))
        told = house.along((-10, 10), (10, 10))
        self.assertEqual(told, [
            ((0, 1), True, (2, 5), False, (1, 2, 3)), ((2, 5), True, (3, 5), True, (0, 0, 0)),
            ((3, 5), False, (1, 1), True, (1, 2, 3)),
        ])

    def test_a_stretch_of_one_point(self):
        house = house_of(("lamp", 0, 0, 1, 2, 3), ("post", 0, 5, 0, 5))
        told = house.along((-10, 10), (10, 10))
        self.assertEqual(told, [
            ((0, 1), True, (1, 2), False, (1, 2, 3)), ((1, 2), True, (1, 2), True, (0, 0, 0)),
            ((1, 2), False, (1, 1), True, (1, 2, 3)),
        ])

    def test_one_point_at_an_end(self):
        house = house_of(("lamp", 0, 0, 1, 2, 3), ("post", 5, 5, 5, 5))
        told = house.along((10, 10), (20, 10))
        self.assertEqual(told, [((0, 1), True, (0, 1), True, (0, 0, 0)), ((0, 1), False, (1, 1), True, (1, 2, 3))])
        told = house.along((0, 10), (10, 10))
        self.assertEqual(told, [((0, 1), True, (1, 1), False, (1, 2, 3)), ((1, 1), True, (1, 1), True, (0, 0, 0))])

    def test_two_shades_that_touch(self):
        house = house_of(("lamp", 0, 0, 1, 2, 3), ("pane", -2, 5, 0, 5, "r"), ("pane", 0, 5, 2, 5, "g"))
        told = house.along((-4, 10), (4, 10))
        self.assertEqual(told, [
            ((0, 1), True, (1, 2), False, (1, 0, 0)), ((1, 2), True, (1, 2), True, (0, 0, 0)),
            ((1, 2), False, (1, 1), True, (0, 2, 0)),
        ])

    def test_neighbours_of_the_same_light_are_one(self):
        house = house_of(("lamp", 0, 0, 1, 2, 3), ("pane", -1, 5, 1, 5, "rgb"), ("post", -2, 5, 0, 5), ("post", 0, 6, 1, 6))
        told = house.along((-10, 10), (10, 10))
        self.assertEqual([row[4] for row in told], [(1, 2, 3), (0, 0, 0), (1, 2, 3)])
        house = house_of(("lamp", 0, 0, 0, 0, 0), ("post", -1, 5, 1, 5))
        self.assertEqual(house.along((-10, 10), (10, 10)), [((0, 1), True, (1, 1), True, (0, 0, 0))])

    def test_two_lamps_that_make_up_for_one_another(self):
        house = house_of(
            ("lamp", -10, 0, 1, 1, 1), ("lamp", 10, 0, 1, 1, 1), ("post", -5, 5, -5, 5), ("pane", 5, 5, 5, 6, "")
        )
        self.check_form(house.along((-10, 10), (10, 10)))

    def test_along_the_way_of_the_lamp(self):
        house = house_of(("lamp", 0, 0, 1, 2, 3), ("post", 4, -1, 5, 1))
        told = house.along((-10, 0), (10, 0))
        self.assertEqual(told, [((0, 1), True, (7, 10), False, (1, 2, 3)), ((7, 10), True, (1, 1), True, (0, 0, 0))])

    def test_by_another_way_and_the_other_way_about(self):
        for chance, deeds, house, plain in small_houses(range(300, 400), lamps=2, opens=1):
            line = some_line(chance)
            setting = chance.choice(house.settings())
            told = house.along(*line, setting=setting)
            self.check_form(told)
            self.assertEqual(told, plainhouse.along(plain.now, setting, line), (deeds, setting, line))
            turned = [
                (plainly.pair(1 - Fraction(*end)), end_in, plainly.pair(1 - Fraction(*start)), start_in, light)
                for start, start_in, end, end_in, light in reversed(told)
            ]
            self.assertEqual(house.along(line[1], line[0], setting=setting), turned, (deeds, setting, line))

    def test_lines_through_lamps_by_another_way(self):
        for chance, deeds, house, plain in small_houses(range(400, 440), lamps=3):
            places = [choices[0][:2] for number, choices, on in house.lamps()]
            for one, other in ((places[0], places[1]), (places[0], some_line(chance)[0])):
                if one != other:
                    told = house.along(one, other)
                    self.assertEqual(told, plainhouse.along(plain.now, (), (one, other)), (deeds, one, other))

    def test_far_lines_by_another_way(self):
        for chance, deeds, house, plain in small_houses(range(440, 460), reach=FAR - 3):
            line = some_line(chance, FAR)
            self.assertEqual(house.along(*line), plainhouse.along(plain.now, (), line), (deeds, line))

    def test_told_list_is_new(self):
        house = house_of(("lamp", 0, 0, 1, 2, 3))
        house.along((0, 1), (1, 1)).clear()
        self.assertEqual(house.along((0, 1), (1, 1)), [((0, 1), True, (1, 1), True, (1, 2, 3))])


class TestShareLight(unittest.TestCase):
    def test_ends_are_places(self):
        house = house_of(("lamp", 0, 0, 1, 2, 3), ("post", 5, 0, 5, 0))
        self.assertEqual(house.share_light((9, 0), (9, 9), (0, 1)), house.light(9, 0))
        self.assertEqual(house.share_light((9, 0), (9, 9), (1, 1)), house.light(9, 9))
        self.assertEqual(house.share_light((9, 0), (9, 9), (1, 10 ** 29)), (1, 2, 3))

    def test_just_at_the_end_of_a_shade(self):
        house = house_of(("lamp", 0, 0, 1, 2, 3), ("post", -1, 5, 1, 6))
        line = ((-10, 10), (10, 10))
        self.assertEqual(house.share_light(*line, (2, 5)), (0, 0, 0))
        self.assertEqual(house.share_light(*line, (3, 5)), (0, 0, 0))
        self.assertEqual(house.share_light(*line, (4 * 10 ** 28 - 1, 10 ** 29)), (1, 2, 3))
        self.assertEqual(house.share_light(*line, (6 * 10 ** 28 + 1, 10 ** 29)), (1, 2, 3))

    def test_by_another_way(self):
        for chance, deeds, house, plain in small_houses(range(500, 560), opens=1):
            line = some_line(chance)
            setting = chance.choice(house.settings())
            for turn in range(6):
                bottom = chance.randint(1, 12)
                share = Fraction(chance.randint(0, bottom), bottom)
                told = house.share_light(*line, plainly.pair(share), setting=setting)
                point = plainly.point_at(line, share)
                self.assertEqual(told, plainhouse.light(plain.now, setting, point), (deeds, line, share))

    def test_as_along_tells(self):
        for chance, deeds, house, plain in small_houses(range(560, 600)):
            line = some_line(chance)
            for start, start_in, end, end_in, light in house.along(*line):
                middle = plainly.pair((Fraction(*start) + Fraction(*end)) / 2)
                self.assertEqual(house.share_light(*line, middle), light, (deeds, line))
                if start_in:
                    self.assertEqual(house.share_light(*line, start), light, (deeds, line))
                if end_in:
                    self.assertEqual(house.share_light(*line, end), light, (deeds, line))


if __name__ == "__main__":
    unittest.main()
