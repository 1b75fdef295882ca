"""Two houses told apart by moving things of both alike."""

import copy
import itertools
import unittest

import plainhouse
from making import TWO, house_of

from hueshade.errors import BadPlace, BadSort, BadView, NoThing, TooMany, Unknown
from hueshade.house import House
from hueshade.numbers import FAR
from hueshade.parting import MOST_MOVES, parting


def plain_parting(one, other, things, places):
    """By going through all ways; BadPlace is the name of the refusal where some way leads beyond FAR."""
    found = []
    for row in itertools.product(*[range(len(shifts) + 1) for sort, number, shifts in things]):
        moves = [
            (sort, number, *shifts[at - 1]) for (sort, number, shifts), at in zip(things, row) if at > 0
        ]
        floors = [copy.deepcopy(one.now), copy.deepcopy(other.now)]
        for floor in floors:
            for move in moves:
                plainhouse.move(floor, *move)
        unlike = [
            place for place in places if plainhouse.light(floors[0], (), place) != plainhouse.light(floors[1], (), place)
        ]
        if unlike:
            found.append(((len(moves), row), (tuple(moves), unlike[0])))
    return min(found)[1] if found else None


def some_pair(chance):
    """Two houses of things with the same numbers, that are mostly alike."""
    deeds = plainhouse.some_house(chance, [], lamps=2, posts=2, panes=2, reach=4, off=0.1)
    others = list(deeds)
    for turn in range(chance.choice((0, 1, 1, 2))):
        at = chance.randrange(len(others))
        same = [deed for deed in plainhouse.some_house(chance, [], lamps=2, posts=2, panes=2, reach=4, off=0)]
        new = [deed for deed in same if deed[0] == others[at][0]]
        if new:
            others[at] = new[0]
    return plainhouse.both_of(deeds, House), plainhouse.both_of(others, House)


def some_things(chance):
    names = [(sort, number) for sort in ("lamp", "post", "pane") for number in (1, 2)]
    return [
        (*name, tuple((chance.randint(-4, 4), chance.randint(-4, 4)) for shift in range(chance.randint(0, 3))))
        for name in chance.sample(names, chance.randint(0, 3))
    ]


class TestParting(unittest.TestCase):
    def test_bound(self):
        self.assertEqual(MOST_MOVES, 200)

    def test_unlike_as_they_stand(self):
        one = house_of(("lamp", 0, 0, 1, 1, 1))
        other = house_of(("lamp", 0, 0, 1, 1, 2))
        self.assertEqual(parting(one, other, [], [(5, 5)]), ((), (5, 5)))
        self.assertEqual(parting(one, other, [("lamp", 1, ((1, 1),))], [(5, 5), (6, 6)]), ((), (5, 5)))

    def test_alike(self):
        one = house_of(("lamp", 0, 0, 1, 1, 1))
        other = house_of(("lamp", 3, 3, 1, 1, 1))
        self.assertIsNone(parting(one, other, [], [(5, 5)]))
        self.assertIsNone(parting(one, other, [("lamp", 1, ((1, 1), (2, 2)))], [(5, 5), (0, 0)]))

    def test_one_move_tells_them_apart(self):
        one = house_of(("lamp", 0, 0, 1, 1, 1), ("post", 0, 5, 0, 5))
        other = house_of(("lamp", 9, 0, 1, 1, 1), ("post", 0, 5, 0, 5))
        things = [("post", 1, ((50, 50), (2, 0), (0, 1)))]
        self.assertIsNone(parting(one, other, things[:0], [(4, 10)]))
        self.assertEqual(parting(one, other, things, [(4, 10)]), ((("post", 1, 2, 0),), (4, 10)))

    def test_the_first_told_place(self):
        one = house_of(("lamp", 0, 0, 1, 1, 1), ("post", 3, 0, 3, 0))
        other = house_of(("lamp", 0, 0, 1, 1, 1), ("post", 3, 3, 3, 3))
        places = [(1, 1), (5, 5), (5, 0)]
        self.assertEqual(parting(one, other, [], places), ((), (5, 5)))
        self.assertEqual(parting(one, other, [], places[::-1]), ((), (5, 0)))
        self.assertEqual(parting(one, other, [], tuple(places)), ((), (5, 5)))

    def test_the_fewest_moved_then_the_first_row(self):
        one = house_of(("lamp", 0, 0, 1, 1, 1), ("post", 50, 50, 50, 50), ("post", 60, 50, 60, 50))
        other = house_of(("lamp", 9, 0, 1, 1, 1), ("post", 50, 50, 50, 50), ("post", 60, 50, 60, 50))
        first = ("post", 1, ((1, 1), (-48, -45)))
        second = ("post", 2, ((-58, -45),))
        self.assertEqual(parting(one, other, [first, second], [(4, 10)]), ((("post", 2, -58, -45),), (4, 10)))
        self.assertEqual(parting(one, other, [second, first], [(4, 10)]), ((("post", 1, -48, -45),), (4, 10)))
        self.assertEqual(parting(one, other, [first], [(4, 10)]), ((("post", 1, -48, -45),), (4, 10)))

    def test_two_moves_that_are_both_needed(self):
        walls = (("post", 2, -5, 2, 5), ("post", 3, -5, 3, 5))
        one = house_of(("lamp", 0, 0, 1, 1, 1), *walls)
        other = house_of(("lamp", 0, 0, 1, 1, 2), *walls)
        things = [("post", 1, ((0, 0), (0, 20))), ("post", 2, ((0, 20),))]
        self.assertEqual(
            parting(one, other, things, [(9, 0)]), ((("post", 1, 0, 20), ("post", 2, 0, 20)), (9, 0))
        )
        self.assertIsNone(parting(one, other, things[:1], [(9, 0)]))

    def test_one_later_thing_goes_ahead_of_two_earlier_ones(self):
        walls = (("post", 2, -5, 2, 5), ("post", 3, -5, 3, 5))
        one = house_of(("lamp", 0, 0, 1, 1, 1), *walls)
        other = house_of(("lamp", 0, 0, 1, 1, 2), *walls)
        lamp, first, second = ("lamp", 1, ((5, 0),)), ("post", 1, ((0, 20),)), ("post", 2, ((0, 20),))
        # As a row of numbers (0, 1, 1) comes ahead of (1, 0, 0), but it moves more things.
        for things in ([lamp, first, second], [first, lamp, second], [first, second, lamp]):
            self.assertEqual(parting(one, other, things, [(9, 0)]), ((("lamp", 1, 5, 0),), (9, 0)), things)
        self.assertEqual(
            parting(one, other, [second, first], [(9, 0)]), ((("post", 2, 0, 20), ("post", 1, 0, 20)), (9, 0))
        )

    def test_a_shift_of_nothing_is_a_move(self):
        one = house_of(("lamp", 0, 0, 1, 1, 1))
        self.assertIsNone(parting(one, one.twin(), [("lamp", 1, ((0, 0),))], [(1, 1)]))

    def test_by_going_through_all_ways(self):
        depths = set()
        for seed in range(250):
            chance = plainhouse.seeded(seed)
            (one, plain_one), (other, plain_other) = some_pair(chance)
            things = some_things(chance)
            places = [(chance.randint(-6, 6), chance.randint(-6, 6)) for place in range(chance.randint(1, 3))]
            before = [one.twin(), other.twin()]
            told = parting(one, other, things, places)
            self.assertEqual(told, plain_parting(plain_one, plain_other, things, places), (one.deeds(), other.deeds(), things))
            self.assertEqual(parting(other, one, things, places), told)
            self.assertIsNone(parting(one, one.twin(), things, places))
            self.assertIsNone(parting(other, other, things, places))
            self.assertEqual(([one, other], one.deeds()), (before, before[0].deeds()))
            depths.add(None if told is None else len(told[0]))
        self.assertTrue({None, 0, 1} <= depths, depths)

    def test_walls_that_must_all_go(self):
        depths = set()
        for seed in range(60):
            chance = plainhouse.seeded(2000 + seed)
            walls = [("post", at, -9, at, 9) for at in (2, 3)] + [("pane", 4, -9, 4, 9, chance.choice(("", "r", "gb")))]
            lamps = [[("lamp", *plainhouse.some_choice(chance, 1)) for lamp in range(2)] for house in range(2)]
            (one, plain_one), (other, plain_other) = [plainhouse.both_of(rows + walls, House) for rows in lamps]
            things = [
                (sort, number, tuple((0, chance.choice((1, 5, 40))) for shift in range(chance.randint(1, 3))))
                for sort, number in chance.sample([("post", 1), ("post", 2), ("pane", 1)], 3)
            ]
            places = [(9, chance.randint(-3, 3)) for place in range(2)]
            told = parting(one, other, things, places)
            self.assertEqual(told, plain_parting(plain_one, plain_other, things, places), (one.deeds(), other.deeds(), things))
            depths.add(None if told is None else len(told[0]))
        self.assertTrue({None, 2, 3} <= depths, depths)

    def test_walls_that_must_go_or_lamps_that_pass_them(self):
        # How often fewer things are moved than by the first row of all that tells the houses apart.
        fewer = 0
        for seed in range(60):
            chance = plainhouse.seeded(3000 + seed)
            walls = [("post", at, -9, at, 9) for at in (2, 3)]
            lamps = [[("lamp", 0, 0, *plainhouse.some_choice(chance)[2:])] for house in range(2)]
            (one, plain_one), (other, plain_other) = [plainhouse.both_of(rows + walls, House) for rows in lamps]
            shifts = {"lamp": ((1, 0), (5, 0), (0, 2)), "post": ((0, 1), (0, 40), (5, 0))}
            things = [("lamp", 1)] * (chance.random() < 0.9) + [("post", 1), ("post", 2)]
            things = [(*name, tuple(chance.choices(shifts[name[0]], k=2))) for name in things]
            places = [(9, chance.randint(-3, 3))]
            told = parting(one, other, things, places)
            self.assertEqual(told, plain_parting(plain_one, plain_other, things, places), (one.deeds(), other.deeds(), things))
            alone = parting(one, other, things[1:], places)
            fewer += told is not None and alone is not None and len(told[0]) < len(alone[0])
        self.assertGreater(fewer, 3)

    def test_six_shifts_each(self):
        for seed in range(20):
            chance = plainhouse.seeded(1000 + seed)
            (one, plain_one), (other, plain_other) = some_pair(chance)
            shifts = [tuple((chance.randint(-4, 4), chance.randint(-4, 4)) for shift in range(6)) for thing in range(2)]
            things = [("post", 1, shifts[0]), (chance.choice(("lamp", "pane")), 1, shifts[1])]
            places = [(chance.randint(-6, 6), chance.randint(-6, 6))]
            self.assertEqual(
                parting(one, other, things, places), plain_parting(plain_one, plain_other, things, places), things
            )

    def test_what_is_handed_in_stays(self):
        one, other = house_of(("lamp", 0, 0, 1, 1, 1)), house_of(("lamp", 0, 0, 1, 1, 2))
        things, places = [("lamp", 1, ((1, 1),))], [(5, 5)]
        told = parting(places=places, things=things, other=other, one=one)
        self.assertEqual((things, places), ([("lamp", 1, ((1, 1),))], [(5, 5)]))
        self.assertEqual([type(told), type(told[0])], [tuple, tuple])

    def test_off_lamps_and_houses_of_unlike_sizes(self):
        one = house_of(("lamp", 0, 0, 1, 1, 1), ("lamp", 5, 5, 1, 1, 1), ("switch", 2))
        other = house_of(("lamp", 0, 0, 1, 1, 1), ("post", 90, 90, 91, 91))
        self.assertIsNone(parting(one, other, [("lamp", 1, ((1, 1),))], [(3, 3)]))

    def test_greatest(self):
        chance = plainhouse.seeded(3)
        deeds = plainhouse.some_house(chance, [], lamps=12, posts=12, panes=12, reach=30, off=0)
        one = house_of(*deeds)
        shifts = tuple((chance.randint(-5, 5), chance.randint(-5, 5)) for shift in range(6))
        things = [("lamp", 1, shifts), ("post", 12, shifts), ("pane", 5, shifts[:3])]
        places = [(chance.randint(-30, 30), chance.randint(-30, 30)) for place in range(12)]
        self.assertIsNone(parting(one, house_of(*deeds), things, places))
        self.assertIsNone(parting(one, one, [("post", at, shifts[:1]) for at in range(1, 8)], places))


class TestRefusals(unittest.TestCase):
    def setUp(self):
        self.one = house_of(("lamp", 0, 0, 1, 1, 1), ("post", 0, 0, 1, 1), ("pane", 0, 0, 1, 1, "r"))
        self.other = house_of(("lamp", FAR - 5, 0, 1, 1, 1), ("post", 0, 0, 1, 1), ("post", 5, 5, 6, 6))
        self.open = house_of(("unsure", TWO))

    def refused(self, error, one, other, things, places=((0, 0),)):
        before = [one.twin(), other.twin()]
        with self.assertRaises(error) as caught:
            parting(one, other, things, places)
        self.assertIs(type(caught.exception), error)
        self.assertEqual([one, other], before)
        return caught.exception

    def test_unknown_goes_first(self):
        for one, other in ((self.open, self.other), (self.one, self.open), (self.open, self.open)):
            self.refused(Unknown, one, other, [("chair", 1, ())], [])
        self.open.switch(1)
        self.refused(Unknown, self.open, self.one, [], [])
        self.open.settle(1)
        self.assertIsNone(parting(self.open, self.open, [], [(0, 0)]))

    def test_things_in_their_order(self):
        seven = ((1, 1),) * 7
        self.refused(BadSort, self.one, self.other, [("chair", 9, seven)], [])
        self.refused(BadSort, self.one, self.other, [("look", 1, ())], [])
        told = self.refused(NoThing, self.one, self.other, [("pane", 9, seven)], [])
        self.assertEqual((told.kind, told.number), ("pane", 9))
        self.refused(BadView, self.one, self.other, [("post", 1, seven)], [])
        self.refused(BadView, self.one, self.other, [("post", 1, seven), ("chair", 1, ())], [])
        self.refused(BadSort, self.one, self.other, [("post", 1, ()), ("chair", 1, ()), ("post", 1, seven)], [])
        self.refused(NoThing, self.one, self.other, [("post", 1, ()), ("pane", 5, ()), ("post", 1, seven)], [])
        self.refused(BadView, self.one, self.other, [("post", 1, ()), ("post", 1, ()), ("pane", 5, ())], [])

    def test_nothing_in_one_then_in_other(self):
        told = self.refused(NoThing, self.one, self.other, [("pane", 1, ())])
        self.assertEqual((told.kind, told.number), ("pane", 1))
        told = self.refused(NoThing, self.one, self.other, [("post", 2, ())])
        self.assertEqual((told.kind, told.number), ("post", 2))

    def test_a_thing_told_ahead_already(self):
        self.refused(BadView, self.one, self.one, [("post", 1, ()), ("lamp", 1, ()), ("post", 1, ((1, 1),))])
        self.assertIsNone(parting(self.one, self.one, [("post", 1, ()), ("lamp", 1, ()), ("pane", 1, ())], [(0, 0)]))

    def test_too_many_ways(self):
        house = house_of(*[("post", at, 0, at, 0) for at in range(8)])
        shift = ((1, 1),)
        eight = [("post", at, shift) for at in range(1, 9)]
        self.refused(TooMany, house, house, eight, [])
        self.assertIsNone(parting(house, house, eight[:7], [(0, 0)]))
        exactly = [("post", 1, shift * 4), ("post", 2, shift * 4), ("post", 3, shift), ("post", 4, shift), ("post", 5, shift)]
        self.assertIsNone(parting(house, house, exactly, [(0, 0)]))
        self.refused(TooMany, house, house, [("post", 1, shift * 6), ("post", 2, shift * 6), ("post", 3, shift * 4)], [])
        self.refused(TooMany, house, house, [("post", 1, ((FAR * 2, 0),) * 6), ("post", 2, shift * 6), ("post", 3, shift * 4)])
        self.assertIsNone(parting(house, house, [("post", 1, shift * 6), ("post", 2, shift * 6), ("post", 3, shift * 3)], [(0, 0)]))

    def test_counts_of_places(self):
        self.refused(BadView, self.one, self.one, [], [])
        self.refused(BadView, self.one, self.one, [], [(0, 0)] * 13)
        self.refused(BadView, self.one, self.one, [], [(FAR + 1, 0)] * 13)
        self.refused(BadView, self.one, self.one, [("post", 1, ((FAR * 2, 0),))], [])
        self.assertIsNone(parting(self.one, self.one, [], [(0, 0)] * 12))

    def test_places(self):
        for place in ((FAR + 1, 0), (0, -FAR - 1)):
            self.refused(BadPlace, self.one, self.one, [], [(0, 0), place])
        self.assertIsNone(parting(self.one, self.one, [], [(FAR, -FAR)]))

    def test_a_way_beyond_far(self):
        self.refused(BadPlace, self.one, self.one, [("post", 1, ((1, 1), (FAR, 0)))])
        self.assertIsNone(parting(self.one, self.one, [("post", 1, ((1, 1), (FAR - 1, 0)))], [(0, 0)]))

    def test_beyond_far_in_one_house_alone(self):
        shifts = ((1, 1), (6, 0))
        self.assertIsNone(parting(self.one, self.one, [("lamp", 1, shifts)], [(0, -5)]))
        self.refused(BadPlace, self.one, self.other, [("lamp", 1, shifts)])
        self.refused(BadPlace, self.other, self.one, [("lamp", 1, shifts)])

    def test_beyond_far_behind_a_way_that_parts(self):
        bright = house_of(("lamp", 9, 9, 5, 5, 5), ("post", 0, 0, 1, 1))
        self.assertEqual(parting(self.one, bright, [("post", 1, ((1, 1),))], [(5, 5)]), ((), (5, 5)))
        self.refused(BadPlace, self.one, bright, [("post", 1, ((1, 1), (FAR, 0)))], [(5, 5)])


if __name__ == "__main__":
    unittest.main()
