"""Views, plans, papers and depths."""

import copy
import unittest

import plainhouse
from making import THREE, TWO, house_of

from hueshade.errors import BadPlace, BadSetting, BadSort, BadView, NoThing, TooMany, Unknown
from hueshade.house import House
from hueshade.numbers import FAR
from hueshade.plans import MOST_FITS, MOST_VIEWS, depth, plan, plan_paper, seen


def plain_seen(plain, view, setting):
    moves, across, up = view
    floor = copy.deepcopy(plain.now)
    for move in moves:
        plainhouse.move(floor, *move)
    return plainhouse.light(floor, setting, (across, up))


def parts(settings, row):
    told = {}
    for setting in settings:
        told.setdefault(row[setting], []).append(setting)
    return told


def least_depth(settings, rows):
    """By going through all plans: rows has the lights of the settings by each view."""
    found = []
    for row in rows:
        told = parts(settings, row)
        if len(told) > 1:
            found.append(1 + max(least_depth(part, rows) for part in told.values()))
    return min(found, default=0)


def some_views(chance, count):
    """Views with moves of things that stand."""
    views = []
    for view in range(count):
        moves = []
        for turn in range(chance.choice((0, 0, 1, 2))):
            sort, number = chance.choice((("lamp", 1), ("lamp", 2), ("post", 1), ("pane", 1)))
            moves.append((sort, number, chance.randint(-4, 4), chance.randint(-4, 4)))
        views.append((tuple(moves), chance.randint(-6, 6), chance.randint(-6, 6)))
    return views


def planned_houses(seeds):
    for seed in seeds:
        chance = plainhouse.seeded(seed)
        deeds = plainhouse.some_house(
            chance, [], lamps=1, opens=chance.randint(1, 2), posts=chance.randint(1, 4), panes=chance.randint(1, 4), reach=4
        )
        house, plain = plainhouse.both_of(deeds, House)
        views = some_views(chance, chance.randint(1, 4))
        rows = [{setting: plain_seen(plain, view, setting) for setting in plain.fits()} for view in views]
        yield deeds, house, views, rows


class PlanTest(unittest.TestCase):
    def check_plan(self, told, settings, rows):
        self.assertIs(type(told), tuple)
        if told[0] == "done":
            self.assertEqual(told, ("done", settings))
            for row in rows:
                self.assertLessEqual(len(parts(settings, row)), 1)
            return
        word, at, branches = told
        self.assertEqual(word, "look")
        self.assertIs(type(branches), list)
        split = parts(settings, rows[at])
        self.assertGreaterEqual(len(split), 2)
        self.assertEqual([light for light, branch in branches], sorted(split))
        for light, branch in branches:
            self.check_plan(branch, split[light], rows)

    def check_paper(self, paper, settings, rows, looks):
        self.assertIs(type(paper), tuple)
        if looks == 0:
            word, one, other = paper
            self.assertEqual(word, "two")
            self.assertIn(one, settings)
            self.assertIn(other, settings)
            self.assertTrue(any(row[one] != row[other] for row in rows))
            return
        word, told = paper
        self.assertEqual((word, type(told), len(told)), ("each", list, len(rows)))
        for (light, within), row in zip(told, rows):
            self.check_paper(within, parts(settings, row)[light], rows, looks - 1)


class TestSeen(unittest.TestCase):
    def setUp(self):
        self.house = house_of(
            ("unsure", TWO), ("lamp", 0, 0, 0, 0, 5), ("post", 3, 3, 3, 3), ("pane", -5, -1, -5, 1, "b")
        )

    def test_without_moves(self):
        self.assertEqual(seen(self.house, ((), 2, 1), (0,)), (1, 0, 5))
        self.assertEqual(seen(self.house, ((), 2, 1), (1,)), (0, 1, 5))
        self.assertEqual(seen(setting=(1,), view=((), 4, 4), house=self.house), (0, 1, 0))

    def test_moves_are_done_one_behind_the_other(self):
        self.assertEqual(seen(self.house, ((("post", 1, 1, 0),), 4, 4), (0,)), (1, 0, 5))
        self.assertEqual(seen(self.house, ((("post", 1, 1, 0), ("post", 1, 0, 1)), 5, 5), (0,)), (0, 0, 0))
        self.assertEqual(seen(self.house, ((("lamp", 1, 50, 50), ("post", 1, 1, 1)), 5, 5), (0,)), (1, 0, 0))
        self.assertEqual(seen(self.house, ((("pane", 1, 6, 0),), 2, 0), (0,)), (0, 0, 5))

    def test_the_house_stays(self):
        before = self.house.twin()
        seen(self.house, ((("post", 1, 1, 0), ("lamp", 2, 5, 5)), 4, 4), (0,))
        self.assertRaises(NoThing, seen, self.house, ((("post", 1, 1, 0), ("lamp", 9, 5, 5)), 4, 4), (0,))
        self.assertEqual((self.house, self.house.deeds()), (before, before.deeds()))

    def test_none_for_a_house_without_open_lamps(self):
        self.house.settle(1)
        self.assertEqual(seen(self.house, ((), 2, 1), None), (1, 0, 5))
        self.assertEqual(seen(self.house, ((), 2, 1), ()), (1, 0, 5))

    def test_refusals_in_order(self):
        stay = ("post", 1, 0, 0)
        far = ("post", 1, FAR, 0)
        self.assertRaises(BadView, seen, self.house, ((("chair", 1, 0, 0),) + (stay,) * 12, FAR + 1, 0), None)
        self.assertRaises(BadSort, seen, self.house, ((stay, ("chair", 1, 0, 0), far), FAR + 1, 0), None)
        self.assertRaises(BadPlace, seen, self.house, ((far, ("chair", 1, 0, 0)), FAR + 1, 0), None)
        with self.assertRaises(NoThing) as caught:
            seen(self.house, ((stay, ("pane", 2, 0, 0), far), FAR + 1, 0), None)
        self.assertEqual((caught.exception.kind, caught.exception.number), ("pane", 2))
        self.assertRaises(BadPlace, seen, self.house, ((stay,), FAR + 1, 0), None)
        self.assertRaises(BadPlace, seen, self.house, ((stay,), 0, -FAR - 1), (9,))
        self.assertRaises(Unknown, seen, self.house, ((stay,), 0, 0), None)
        for setting in ((), (2,), (-1,), (0, 0)):
            self.assertRaises(BadSetting, seen, self.house, ((stay,), 0, 0), setting)

    def test_twelve_moves_are_let(self):
        moves = (("post", 1, 1, 0),) * 12
        self.assertEqual(seen(self.house, (moves, 30, 6), (0,)), (0, 0, 0))

    def test_a_place_that_is_none_between_two_moves(self):
        there, back = ("post", 1, FAR, 0), ("post", 1, -FAR, 0)
        self.assertRaises(BadPlace, seen, self.house, ((there, back), 0, 0), (0,))
        self.assertEqual(seen(self.house, ((back, there), 4, 4), (0,)), (0, 0, 0))

    def test_by_another_way(self):
        for seed in range(40):
            chance = plainhouse.seeded(seed)
            house, plain = plainhouse.both_of(plainhouse.some_house(chance, [], opens=1), House)
            for view in some_views(chance, 4):
                for setting in house.settings():
                    self.assertEqual(seen(house, view, setting), plain_seen(plain, view, setting), (house.deeds(), view))


class TestPlan(PlanTest):
    def test_bounds(self):
        self.assertEqual((MOST_VIEWS, MOST_FITS), (8, 24))

    def test_nothing_to_tell_apart(self):
        house = house_of(("lamp", 0, 0, 1, 1, 1))
        self.assertEqual(plan(house, [((), 5, 5)]), ("done", [()]))
        house.look(5, 5, (0, 0, 0))
        self.assertEqual(plan(house, [((), 5, 5)]), ("done", []))
        self.assertIsNone(plan_paper(house, [((), 5, 5)]))

    def test_views_that_tell_nothing(self):
        house = house_of(("unsure", TWO), ("post", 5, 5, 5, 5))
        self.assertEqual(plan(house, [((), 5, 5), ((), 5, 5)]), ("done", [(0,), (1,)]))
        self.assertIsNone(plan_paper(house, [((), 5, 5)]))

    def test_one_look(self):
        house = house_of(("unsure", TWO), ("unsure", THREE))
        told = plan(house, [((), 7, 7)])
        self.assertEqual(told, ("look", 0, [
            ((0, 1, 10), ("done", [(1, 2)])), ((0, 11, 0), ("done", [(1, 1)])), ((1, 0, 10), ("done", [(0, 2)])),
            ((1, 10, 0), ("done", [(0, 1)])), ((10, 1, 0), ("done", [(1, 0)])), ((11, 0, 0), ("done", [(0, 0)])),
        ]))
        self.assertEqual(depth(told), 1)

    def test_the_least_depth_goes_by_the_right_first_view(self):
        house = house_of(
            ("unsure", ((0, 0, 1, 0, 0), (0, 0, 0, 1, 0), (0, 0, 0, 0, 1), (0, 0, 1, 1, 0))),
            ("pane", 3, -1, 3, 1, "r"), ("pane", -3, -1, -3, 1, "g"), ("pane", -1, 3, 1, 3, "b"),
        )
        views = [((), 0, 9), ((), 9, 0), ((), -9, 0)]
        told = plan(house, views)
        self.assertEqual(depth(told), 2)
        self.assertNotEqual(told[1], 0)
        rows = [{setting: house.light(*view[1:], setting=setting) for setting in house.fits()} for view in views]
        self.check_plan(told, house.fits(), rows)
        self.check_paper(plan_paper(house, views, looks=1), house.fits(), rows, 1)
        self.assertIsNone(plan_paper(house, views, looks=2))
        self.assertEqual(depth(plan(house, [((), 0, 9), ((), 9, 0)])), 2)

    def test_only_fitting_settings(self):
        house = house_of(("unsure", TWO), ("unsure", THREE), ("look", 7, 7, 1, 0, 10))
        self.assertEqual(plan(house, [((), 7, 7)]), ("done", [(0, 2)]))

    def test_views_may_be_a_tuple_and_handed_in_by_name(self):
        house = house_of(("unsure", TWO))
        self.assertEqual(plan(views=(((), 7, 7),), house=house), plan(house, [((), 7, 7)]))
        self.assertEqual(plan_paper(views=(((), 7, 7),), house=house), plan_paper(house, [((), 7, 7)], looks=0))

    def test_by_going_through_all_plans(self):
        depths = set()
        for deeds, house, views, rows in planned_houses(range(150)):
            before = house.twin()
            fits = house.fits()
            told = plan(house, views)
            self.check_plan(told, fits, rows)
            least = least_depth(fits, rows)
            depths.add(least)
            self.assertEqual(depth(told), least, (deeds, views))
            for looks in range(least):
                self.check_paper(plan_paper(house, views, looks=looks), fits, rows, looks)
            for looks in (least, least + 1, 10 ** 29):
                self.assertIsNone(plan_paper(house, views, looks=looks), (deeds, views))
            self.assertEqual((house, house.deeds()), (before, before.deeds()))
        self.assertTrue({0, 1, 2} <= depths, depths)

    def test_told_lists_are_new(self):
        house = house_of(("unsure", TWO))
        views = [((), 7, 7)]
        told = plan(house, views)
        told[2][0][1][1].append("more")
        told[2].clear()
        self.assertEqual(len(plan(house, views)[2]), 2)
        self.assertEqual(plan(house, views)[2][0], ((0, 1, 0), ("done", [(1,)])))
        self.assertEqual(views, [((), 7, 7)])


class TestPaper(PlanTest):
    def one_by_one(self, count):
        """Each view tells one setting from all others, so that as many looks are due as views."""
        house = House()
        house.unsure(tuple((10 ** at, 0, 1, 0, 0) for at in range(count + 1)))
        for at in range(count):
            house.post(10 ** at, -1)
        return house, [((), 10 ** at, -2) for at in range(count)]

    def test_no_looks(self):
        house = house_of(("unsure", TWO))
        word, one, other = plan_paper(house, [((), 7, 7)])
        self.assertEqual((word, sorted([one, other])), ("two", [(0,), (1,)]))

    def test_as_many_looks_as_views(self):
        for count in range(1, 6):
            house, views = self.one_by_one(count)
            told = plan(house, views)
            self.assertEqual(depth(told), count)
            rows = [{setting: house.light(*view[1:], setting=setting) for setting in house.fits()} for view in views]
            self.check_plan(told, house.fits(), rows)
            for looks in range(count):
                self.check_paper(plan_paper(house, views, looks=looks), house.fits(), rows, looks)
            self.assertIsNone(plan_paper(house, views, looks=count))

    def lists_within(self, paper):
        if paper[0] == "each":
            yield paper[1]
            for light, within in paper[1]:
                yield from self.lists_within(within)

    def test_no_list_stands_in_two_places(self):
        house, views = self.one_by_one(4)
        told = list(self.lists_within(plan_paper(house, views, looks=3)))
        self.assertEqual(len(told), 1 + 4 + 16)
        self.assertEqual(len({id(row) for row in told}), len(told))


class TestDepth(unittest.TestCase):
    def test_of_plans(self):
        done = ("done", [(0,)])
        self.assertEqual(depth(done), 0)
        self.assertEqual(depth(("done", [])), 0)
        one = ("look", 0, [((0, 0, 0), done), ((0, 0, 1), done)])
        self.assertEqual(depth(one), 1)
        self.assertEqual(depth(told=("look", 3, [((0, 0, 0), done), ((0, 0, 1), one), ((0, 0, 2), done)])), 2)


class TestRefusals(unittest.TestCase):
    def setUp(self):
        self.house = house_of(("unsure", TWO), ("post", 3, 3, 3, 3))
        self.view = ((), 7, 7)

    def refused(self, error, house, views):
        self.assertRaises(error, plan, house, views)
        self.assertRaises(error, plan_paper, house, views)
        self.assertRaises(error, plan_paper, house, views, looks=-1)

    def test_counts_of_views(self):
        self.refused(BadView, self.house, [])
        self.refused(BadView, self.house, [self.view] * 9)
        self.refused(BadView, self.house, [((("chair", 1, 0, 0),), 0, 0)] * 9)
        self.assertEqual(depth(plan(self.house, [self.view] * 8)), 1)

    def test_views_in_their_order(self):
        sort = ((("chair", 1, 0, 0),), FAR + 1, 0)
        thing = ((("pane", 1, 0, 0),), FAR + 1, 0)
        far = ((("post", 1, FAR, 0),), 0, 0)
        place = ((), 0, FAR + 1)
        long = ((("post", 1, 0, 0),) * 13, 0, 0)
        for view, error in ((sort, BadSort), (thing, NoThing), (far, BadPlace), (place, BadPlace), (long, BadView)):
            self.refused(error, self.house, [self.view, view])
            for other in (sort, thing, far, place, long):
                self.refused(error, self.house, [self.view, view, other])

    def test_too_many_fits(self):
        choices = tuple((at, 0, 1, 0, 0) for at in range(6))
        house = house_of(("unsure", choices), ("unsure", choices[:4]))
        self.assertEqual(plan(house, [self.view])[0], "done")
        house.unsure(choices[:2])
        self.refused(TooMany, house, [self.view])
        self.refused(BadPlace, house, [((), FAR + 1, 0)])
        house.look(7, 7, (0, 0, 0))
        self.assertEqual(plan(house, [self.view]), ("done", []))
        twenty_five = house_of(("unsure", choices[:5]), ("unsure", choices[:5]))
        self.refused(TooMany, twenty_five, [self.view])

    def test_looks_below_nought(self):
        self.assertRaises(BadView, plan_paper, self.house, [self.view], looks=-1)
        self.assertRaises(BadView, plan_paper, House(), [self.view], looks=-1)
        self.assertRaises(TypeError, plan_paper, self.house, [self.view], 0)

    def test_settings_are_not_asked_for(self):
        self.assertEqual(plan(self.house, [self.view])[0], "look")


if __name__ == "__main__":
    unittest.main()
