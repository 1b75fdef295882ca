"""The greatest houses that are let, and what they tell."""

import unittest
from fractions import Fraction

import plainhouse
import plainly
from test_plans import PlanTest

from hueshade.house import House
from hueshade.lights import BRIGHT, SIFTS
from hueshade.numbers import FAR
from hueshade.plans import depth, plan, plan_paper, seen


def greatest_deeds(chance, counts, reach=30):
    """Deeds for 12 lamps, of which some are open with these counts of choices, 12 posts and 12 panes."""
    deeds = []
    for count in counts:
        choices = {plainhouse.some_choice(chance, reach): True for choice in range(3 * count)}
        deeds.append(("unsure", tuple(choices)[:count]))
    return plainhouse.some_house(chance, deeds, lamps=12 - len(counts), posts=12, panes=12, reach=reach, off=0)


def some_place(chance, reach=30):
    return (chance.randint(-reach, reach), chance.randint(-reach, reach))


class TestGreatest(unittest.TestCase):
    def check_line(self, house, plain, line, chance):
        """Going through all turns of so many things takes long: some told ends and middles are looked at."""
        told = house.along(*line)
        self.assertGreater(len(told), 10)
        self.assertEqual((told[0][:2], told[-1][2:4]), (((0, 1), True), ((1, 1), True)))
        for one, other in zip(told, told[1:]):
            self.assertEqual((one[2], one[3]), (other[0], not other[1]))
            self.assertNotEqual(one[4], other[4])
        for start, start_in, end, end_in, light in chance.sample(told, min(len(told), 20)):
            shares = [(Fraction(*start) + Fraction(*end)) / 2]
            shares += [Fraction(*start)] * start_in + [Fraction(*end)] * end_in
            for share in shares:
                self.assertEqual(plainhouse.light(plain.now, (), plainly.point_at(line, share)), light)

    def test_lights_reasons_and_lines(self):
        for seed in range(2):
            chance = plainhouse.seeded(seed)
            house, plain = plainhouse.both_of(greatest_deeds(chance, ()), House)
            self.assertEqual((len(house), len(house.lamps())), (36, 12))
            for turn in range(5):
                place = some_place(chance)
                self.assertEqual(house.light(*place), plainhouse.light(plain.now, (), place))
                self.assertEqual(house.reasons(*place), plainhouse.reasons(plain.now, (), place))
            self.check_line(house, plain, ((-40, 31), (40, -33)), chance)

    def test_lines_of_far_things(self):
        chance = plainhouse.seeded(7)
        house, plain = plainhouse.both_of(greatest_deeds(chance, (), FAR - 3), House)
        self.check_line(house, plain, ((-FAR, FAR - 1), (FAR, -FAR)), chance)

    def test_two_hundred_settings_with_24_looks(self):
        chance = plainhouse.seeded(11)
        house, plain = plainhouse.both_of(greatest_deeds(chance, (5, 5, 2, 2, 2)), House)
        self.assertEqual(len(house.settings()), 200)
        true = chance.choice(house.settings())
        for turn in range(24):
            place = some_place(chance)
            house.look(*place, house.light(*place, setting=true))
            house.do(("move", chance.choice(("lamp", "post", "pane")), chance.randint(1, 12), *some_place(chance, 2)))
        fits = house.fits()
        self.assertIn(true, fits)
        self.assertLess(len(fits), 200)
        self.assertIsNone(house.clash())
        for number in range(1, 13):
            self.assertIn(true[number - 1] if number <= 5 else 0, house.left(number))
        place = some_place(chance)
        self.assertIn(house.light(*place, setting=true), house.lights(*place))
        house.strike(24)
        house.look(*place, (12 * BRIGHT, 12 * BRIGHT, 12 * BRIGHT))
        self.assertEqual((house.fits(), house.clash()), ([], [25]))

    def test_24_looks_by_going_through_all_settings(self):
        chance = plainhouse.seeded(13)
        house, plain = plainhouse.both_of(greatest_deeds(chance, (6, 4, 4, 2))[:4], House)
        for turn in range(24):
            place = some_place(chance)
            setting = chance.choice(house.settings())
            deed = ("look", *place, *house.light(*place, setting=setting))
            self.assertEqual(house.do(deed), plain.do(deed))
        self.assertEqual(house.fits(), plain.fits())
        told = house.clash()
        self.assertEqual(plain.fits(told), [])
        for number in told:
            self.assertNotEqual(plain.fits([other for other in told if other != number]), [])

    def test_brightest(self):
        house = House()
        for turn in range(12):
            house.lamp(0, 0, light=(BRIGHT, BRIGHT, BRIGHT))
        self.assertEqual(house.light(FAR, -FAR), (12 * BRIGHT,) * 3)
        house.look(FAR, -FAR, (12 * BRIGHT,) * 3)
        self.assertEqual(house.fits(), [()])

    def test_all_things_at_one_place(self):
        house = House()
        for turn in range(12):
            house.lamp(1, 1)
            house.post(1, 1)
            house.pane((1, 1), (2 + turn, 2), sift=SIFTS[turn % 8])
        things = [("post", number) for number in range(1, 13)] + [("pane", number) for number in range(1, 13)]
        self.assertEqual(house.reasons(1, 1), [(number, (0, 0, 0), things) for number in range(1, 13)])
        self.assertEqual(house.along((1, 1), (5, 9)), [((0, 1), True, (1, 1), True, (0, 0, 0))])


class TestGreatestPlans(PlanTest):
    def rows_of(self, house, views):
        return [{setting: seen(house, view, setting) for setting in house.fits()} for view in views]

    def views_of(self, chance):
        views = []
        for view in range(8):
            moves = [("post", chance.randint(1, 12), *some_place(chance, 3)) for move in range(12)]
            views.append((tuple(moves), *some_place(chance)))
        return views

    def test_24_fitting_settings_with_8_views(self):
        for counts in ((6, 4), (6, 2, 2), (3, 2, 2, 2)):
            chance = plainhouse.seeded(sum(counts))
            house = plainhouse.both_of(greatest_deeds(chance, counts), House)[0]
            views = self.views_of(chance)
            self.assertEqual(len(house.fits()), 24)
            rows = self.rows_of(house, views)
            told = plan(house, views)
            self.check_plan(told, house.fits(), rows)
            if depth(told):
                self.check_paper(plan_paper(house, views, looks=depth(told) - 1), house.fits(), rows, depth(told) - 1)
            self.assertIsNone(plan_paper(house, views, looks=depth(told)))

    def deep_house(self):
        """Lamps of one light each of whose choices some view tells apart: looks go on one by one."""
        house = House()
        house.unsure(tuple((10 ** at, 0, 1, 0, 0) for at in range(6)))
        house.unsure(tuple((3 * 10 ** at, 0, 1, 0, 0) for at in range(4)))
        for at in range(5):
            house.post(10 ** at, -1)
        for at in range(3):
            house.post(3 * 10 ** at, -1)
        return house, [((), 10 ** at, -2) for at in range(5)] + [((), 3 * 10 ** at, -2) for at in range(3)]

    def test_many_looks(self):
        house, views = self.deep_house()
        self.assertEqual(len(house.fits()), 24)
        rows = self.rows_of(house, views)
        told = plan(house, views)
        self.check_plan(told, house.fits(), rows)
        self.assertEqual(depth(told), 8)
        for looks in range(4):
            self.check_paper(plan_paper(house, views, looks=looks), house.fits(), rows, looks)
        self.assertIsNone(plan_paper(house, views, looks=8))

    def check_way_down(self, paper, settings, rows, chance):
        """Follows a paper down by views that chance tells, and tells how many looks it speaks of."""
        looks = 0
        while paper[0] == "each":
            self.assertEqual((len(paper), type(paper[1]), len(paper[1])), (2, list, len(rows)))
            at = chance.randrange(len(rows))
            light, paper = paper[1][at]
            settings = [setting for setting in settings if rows[at][setting] == light]
            looks += 1
        self.check_paper(paper, settings, rows, 0)
        return looks

    def test_the_longest_papers(self):
        # They have two million ends: some of these are looked at.
        house, views = self.deep_house()
        rows = self.rows_of(house, views)
        chance = plainhouse.seeded(17)
        for looks in (4, 5, 6, 7):
            paper = plan_paper(house, views, looks=looks)
            for turn in range(300):
                self.assertEqual(self.check_way_down(paper, house.fits(), rows, chance), looks)


if __name__ == "__main__":
    unittest.main()
