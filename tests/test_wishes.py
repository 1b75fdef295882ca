"""Wishes, and papers that fewer lamps fail them."""

import itertools
import unittest

import plainhouse
from making import TWO, house_of

from hueshade.errors import BadLight, BadMenu, BadPlace, BadWish, Unknown
from hueshade.house import House
from hueshade.lights import BRIGHT
from hueshade.numbers import FAR
from hueshade.wishes import MOST_WISH, wish, wish_paper


def total(lights):
    return tuple(sum(light[colour] for light in lights) for colour in range(3))


def plain_gifts(plain, menu, wants):
    """What each menu lamp brings to each want."""
    return [[plainhouse.come(plain.now, lamp, want[:2]) for want in wants] for lamp in menu]


def plain_had(plain, wants):
    return [plainhouse.light(plain.now, (), want[:2]) for want in wants]


def meets(had, gifts, wants, chosen):
    for at, want in enumerate(wants):
        light = total([had[at]] + [gifts[lamp][at] for lamp in chosen])
        if any(worth < wanted for worth, wanted in zip(light, want[2:])):
            return False
    return True


def plain_wish(plain, menu, wants, most):
    had, gifts = plain_had(plain, wants), plain_gifts(plain, menu, wants)
    for count in range(min(most, len(menu)) + 1):
        for chosen in itertools.combinations(range(len(menu)), count):
            if meets(had, gifts, wants, chosen):
                return list(chosen)
    return None


def some_wish(chance, reach=5, lamps=6, places=4, brightest=14):
    menu = [plainhouse.some_choice(chance, reach) for lamp in range(chance.randint(1, lamps))]
    wants = [
        (*plainhouse.some_choice(chance, reach)[:2], *[chance.choice((0, 0, 1, 5, brightest)) for colour in range(3)])
        for want in range(chance.randint(1, places))
    ]
    return menu, wants


class WishTest(unittest.TestCase):
    def check_paper(self, paper, had, gifts, wants, taken, out, more):
        """Walks a paper case by case."""
        self.assertIs(type(paper), tuple)
        word, want, colour = paper[:3]
        have = had[want][colour] + sum(gifts[lamp][want][colour] for lamp in taken)
        wanted = wants[want][2 + colour]
        others = [lamp for lamp in range(len(gifts)) if lamp not in taken and lamp not in out]
        brings = {lamp: gifts[lamp][want][colour] for lamp in others}
        if word == "short":
            self.assertEqual(len(paper), 3)
            self.assertLess(have + sum(sorted(brings.values(), reverse=True)[:more]), wanted)
            return
        self.assertEqual((word, len(paper), type(paper[3])), ("cases", 4, list))
        self.assertGreaterEqual(more, 1)
        self.assertLess(have, wanted)
        self.assertEqual([row[0] for row in paper[3]], [lamp for lamp in others if brings[lamp] > 0])
        gone = list(out)
        for lamp, within in paper[3]:
            self.check_paper(within, had, gifts, wants, [*taken, lamp], gone, more - 1)
            gone = [*gone, lamp]


class TestWish(WishTest):
    def test_bound(self):
        self.assertEqual(MOST_WISH, 8)

    def test_what_is_there_already(self):
        house = house_of(("lamp", 0, 0, 3, 3, 3))
        self.assertEqual(wish(house, [(0, 0, 1, 1, 1)], [(5, 5, 3, 3, 3)]), [])
        self.assertEqual(wish(house, [(0, 0, 1, 1, 1)], [(5, 5, 3, 3, 3)], most=0), [])
        self.assertEqual(wish(house, [(0, 0, 1, 1, 1)], [(5, 5, 0, 0, 0)]), [])
        self.assertIsNone(wish_paper(house, [(0, 0, 1, 1, 1)], [(5, 5, 3, 3, 3)]))

    def test_one_lamp(self):
        house = house_of(("lamp", 0, 0, 3, 3, 3))
        menu = [(0, 0, 1, 1, 1), (0, 0, 2, 0, 0), (0, 0, 0, 2, 2)]
        self.assertEqual(wish(house, menu, [(5, 5, 4, 4, 4)]), [0])
        self.assertEqual(wish(house, menu, [(5, 5, 4, 3, 3)]), [0])
        self.assertEqual(wish(house, menu, [(5, 5, 5, 3, 3)]), [1])
        self.assertEqual(wish(house, menu, [(5, 5, 5, 5, 5)]), [1, 2])
        self.assertEqual(wish(house, menu, [(5, 5, 6, 6, 6)]), [0, 1, 2])
        self.assertIsNone(wish(house, menu, [(5, 5, 7, 0, 0)]))

    def test_the_fewest_then_the_first(self):
        menu = [(0, 0, 1, 0, 0), (0, 0, 1, 0, 0), (0, 0, 2, 0, 0), (0, 0, 2, 0, 0), (0, 0, 3, 0, 0)]
        self.assertEqual(wish(House(), menu, [(5, 5, 2, 0, 0)]), [2])
        self.assertEqual(wish(House(), menu, [(5, 5, 4, 0, 0)]), [0, 4])
        self.assertEqual(wish(House(), menu, [(5, 5, 5, 0, 0)]), [2, 4])
        self.assertEqual(wish(House(), menu, [(5, 5, 6, 0, 0)]), [0, 2, 4])

    def test_most(self):
        menu = [(0, 0, 1, 0, 0)] * 3
        for most in range(6):
            told = wish(House(), menu, [(5, 5, 2, 0, 0)], most=most)
            self.assertEqual(told, [0, 1] if most >= 2 else None)
        self.assertEqual(wish(House(), menu, [(5, 5, 2, 0, 0)], most=10 ** 29), [0, 1])

    def test_each_lamp_once(self):
        self.assertIsNone(wish(House(), [(0, 0, 1, 0, 0)], [(5, 5, 2, 0, 0)]))
        self.assertEqual(wish(House(), [(0, 0, 1, 0, 0)] * 2, [(5, 5, 2, 0, 0)]), [0, 1])

    def test_posts_and_panes_stand_in_the_way_and_off_lamps_bring_nothing(self):
        house = house_of(("lamp", 5, 4, 9, 9, 9), ("switch", 1), ("post", 3, 0, 3, 0), ("pane", 0, 3, 9, 3, "g"))
        menu = [(0, 0, 9, 9, 9), (9, 0, 9, 9, 9)]
        self.assertEqual(wish(house, menu, [(6, 0, 1, 0, 0)]), [1])
        self.assertEqual(wish(house, menu, [(6, 6, 0, 18, 0)]), [0, 1])
        self.assertIsNone(wish(house, menu, [(6, 6, 1, 0, 0)]))

    def test_twelve_lamps_stand_already(self):
        house = house_of(*[("lamp", 0, 0, 1, 1, 1)] * 12)
        self.assertEqual(wish(house, [(0, 0, 1, 1, 1)], [(5, 5, 13, 13, 13)]), [0])

    def test_several_wants(self):
        house = house_of(("post", 0, -9, 0, 9))
        menu = [(-5, 0, 1, 1, 1), (5, 0, 1, 1, 1)]
        self.assertEqual(wish(house, menu, [(-2, 0, 1, 0, 0), (2, 0, 0, 0, 1)]), [0, 1])
        self.assertEqual(wish(house, menu, [(2, 0, 0, 0, 1), (3, 0, 1, 1, 1)]), [1])

    def test_by_going_through_all_choices(self):
        lengths = set()
        for seed in range(200):
            chance = plainhouse.seeded(seed)
            house, plain = plainhouse.both_of(plainhouse.some_house(chance, [], lamps=2, posts=1, panes=2, reach=5), House)
            menu, wants = some_wish(chance)
            before = house.twin()
            had, gifts = plain_had(plain, wants), plain_gifts(plain, menu, wants)
            told = wish(house, menu, wants)
            self.assertEqual(told, plain_wish(plain, menu, wants, 8), (house.deeds(), menu, wants))
            lengths.add(None if told is None else len(told))
            for most in range(len(menu) + 2):
                self.assertEqual(wish(house, menu, wants, most=most), plain_wish(plain, menu, wants, most))
                paper = wish_paper(house, menu, wants, most=most)
                if told is not None and len(told) <= most:
                    self.assertIsNone(paper)
                else:
                    self.check_paper(paper, had, gifts, wants, [], [], most)
            self.assertEqual((house, house.deeds()), (before, before.deeds()))
        self.assertTrue({None, 0, 1, 2, 3} <= lengths, lengths)

    def test_what_is_handed_in_and_told_stays_apart(self):
        menu, wants = [(0, 0, 1, 0, 0)] * 3, [(5, 5, 2, 0, 0)]
        told = wish(wants=wants, menu=menu, house=House())
        self.assertIs(type(told), list)
        told.append(7)
        self.assertEqual(wish(House(), tuple(menu), tuple(wants)), [0, 1])
        self.assertEqual((menu, wants), ([(0, 0, 1, 0, 0)] * 3, [(5, 5, 2, 0, 0)]))


class TestPaper(WishTest):
    def test_short(self):
        self.assertEqual(wish_paper(House(), [(0, 0, 1, 1, 1)], [(5, 5, 0, 0, 0), (5, 5, 0, 1, 0)]), ("short", 1, 1))
        menu = [(0, 0, 1, 0, 0), (0, 0, 2, 0, 0), (0, 0, 3, 0, 0)]
        self.assertEqual(wish_paper(House(), menu, [(5, 5, 6, 0, 0)], most=2), ("short", 0, 0))
        self.assertIsNone(wish_paper(House(), menu, [(5, 5, 6, 0, 0)], most=3))
        self.assertEqual(wish_paper(House(), menu, [(5, 5, 7, 0, 0)], most=10 ** 29), ("short", 0, 0))

    def test_cases(self):
        menu = [(0, 0, 1, 0, 0), (0, 0, 0, 1, 0)]
        wants = [(5, 5, 1, 1, 0)]
        told = wish_paper(House(), menu, wants, most=1)
        self.assertIn(told, (
            ("cases", 0, 0, [(0, ("short", 0, 1))]), ("cases", 0, 1, [(1, ("short", 0, 0))]),
        ))
        self.assertIsNone(wish_paper(House(), menu, wants, most=2))

    def test_no_most_is_nought(self):
        self.assertEqual(wish_paper(House(), [(0, 0, 1, 0, 0)], [(5, 5, 1, 0, 0)]), ("short", 0, 0))
        self.assertRaises(TypeError, wish_paper, House(), [(0, 0, 1, 0, 0)], [(5, 5, 1, 0, 0)], 0)
        self.assertRaises(TypeError, wish, House(), [(0, 0, 1, 0, 0)], [(5, 5, 1, 0, 0)], 8)

    def test_deep_papers(self):
        depths = set()
        for seed in range(60):
            chance = plainhouse.seeded(seed)
            menu = [(0, 0, *[chance.choice((0, 3, 4, 5, 9)) for colour in range(3)]) for lamp in range(8)]
            wants = [(5, 5, *[chance.randint(8, 20) for colour in range(3)])]
            plain = plainhouse.PlainHouse()
            had, gifts = plain_had(plain, wants), plain_gifts(plain, menu, wants)
            told = wish(House(), menu, wants)
            self.assertEqual(told, plain_wish(plain, menu, wants, 8))
            for most in range(8 if told is None else len(told)):
                paper = wish_paper(House(), menu, wants, most=most)
                self.check_paper(paper, had, gifts, wants, [], [], most)
                depths.add(self.depth(paper))
        self.assertGreaterEqual(max(depths), 2)

    def depth(self, paper):
        return 1 + max([self.depth(row[1]) for row in paper[3]], default=0) if paper[0] == "cases" else 0

    def test_told_lists_are_new(self):
        menu, wants = [(0, 0, 1, 0, 0), (0, 0, 0, 1, 0)], [(5, 5, 1, 1, 0)]
        told = wish_paper(House(), menu, wants, most=1)
        kept = (*told[:3], list(told[3]))
        told[3].clear()
        self.assertEqual(wish_paper(House(), menu, wants, most=1), kept)


class TestGreatest(WishTest):
    def test_eight_lamps_and_six_wants(self):
        for seed in range(4):
            chance = plainhouse.seeded(seed)
            deeds = plainhouse.some_house(chance, [], lamps=12, posts=12, panes=12, reach=30, off=0)
            house, plain = plainhouse.both_of(deeds, House)
            menu = [plainhouse.some_choice(chance, 30) for lamp in range(8)]
            gifts = None
            wants = [(*plainhouse.some_choice(chance, 30)[:2], 0, 0, 0) for want in range(6)]
            gifts, had = plain_gifts(plain, menu, wants), plain_had(plain, wants)
            chosen = chance.sample(range(8), 5)
            wants = [
                (*want[:2], *total([had[at]] + [gifts[lamp][at] for lamp in chosen])) for at, want in enumerate(wants)
            ]
            told = wish(house, menu, wants)
            self.assertEqual(told, plain_wish(plain, menu, wants, 8))
            self.assertLessEqual(len(told), 5)
            for most in range(len(told)):
                self.check_paper(wish_paper(house, menu, wants, most=most), had, gifts, wants, [], [], most)

    def test_brightest(self):
        house = house_of(*[("lamp", 0, 0, BRIGHT, BRIGHT, BRIGHT)] * 12)
        menu = [(FAR, -FAR, BRIGHT, BRIGHT, BRIGHT)] * 8
        self.assertEqual(wish(house, menu, [(5, 5, 20 * BRIGHT, 0, 0)]), list(range(8)))
        self.assertIsNone(wish(house, menu, [(5, 5, 24 * BRIGHT, 0, 24 * BRIGHT)]))
        self.assertIsNone(wish(house, menu, [(5, 5, 20 * BRIGHT, 0, 0)], most=7))


class TestRefusals(unittest.TestCase):
    menu = [(0, 0, 1, 1, 1)]
    wants = [(5, 5, 1, 1, 1)]

    def refused(self, error, house, menu, wants, **most):
        before = house.twin()
        for ask in (wish, wish_paper):
            with self.assertRaises(error) as caught:
                ask(house, menu, wants, **most)
            self.assertIs(type(caught.exception), error)
        self.assertEqual(house, before)

    def test_unknown_goes_first(self):
        house = house_of(("unsure", TWO))
        self.refused(Unknown, house, [], [], most=-1)
        house.switch(1)
        self.refused(Unknown, house, self.menu, self.wants)
        house.settle(1)
        self.assertEqual(wish(house, self.menu, self.wants), [0])

    def test_counts_of_menus(self):
        self.refused(BadMenu, House(), [], [], most=-1)
        self.refused(BadMenu, House(), self.menu * 9, [], most=-1)
        self.refused(BadMenu, House(), [(FAR + 1, 0, 1, 1, 1)] * 9, [], most=-1)
        self.assertEqual(wish(House(), self.menu * 8, self.wants), [0])

    def test_menu_lamps_in_their_order(self):
        far, bright = (0, FAR + 1, 1, 1, -1), (0, 0, 1, BRIGHT + 1, 1)
        self.refused(BadPlace, House(), [*self.menu, far, bright], [], most=-1)
        self.refused(BadLight, House(), [*self.menu, bright, far], [], most=-1)
        self.refused(BadLight, House(), [(0, 0, -1, 1, 1)], [], most=-1)
        self.assertEqual(wish(House(), [(FAR, -FAR, BRIGHT, BRIGHT, 0)], [(5, 5, BRIGHT, 1, 0)]), [0])

    def test_counts_of_wants(self):
        self.refused(BadWish, House(), self.menu, [], most=-1)
        self.refused(BadWish, House(), self.menu, [(FAR + 1, 0, -1, 1, 1)] * 7, most=-1)
        self.assertEqual(wish(House(), self.menu, self.wants * 6), [0])

    def test_wants_in_their_order(self):
        far, bright = (FAR + 1, 0, 1, 1, -1), (0, 0, 1, 24 * BRIGHT + 1, 1)
        self.refused(BadPlace, House(), self.menu, [*self.wants, far, bright], most=-1)
        self.refused(BadLight, House(), self.menu, [*self.wants, bright, far], most=-1)
        self.refused(BadLight, House(), self.menu, [(0, 0, 0, 0, -1)], most=-1)
        self.assertIsNone(wish(House(), self.menu, [(FAR, -FAR, 24 * BRIGHT, 0, 0)]))

    def test_each_number_at_its_bound_and_one_beyond(self):
        for at, error in enumerate((BadPlace, BadPlace, BadLight, BadLight, BadLight)):
            for rows, least, most in (
                (self.menu, -FAR if at < 2 else 0, FAR if at < 2 else BRIGHT),
                (self.wants, -FAR if at < 2 else 0, FAR if at < 2 else 24 * BRIGHT),
            ):
                for worth, beyond in ((least, least - 1), (most, most + 1)):
                    good, bad = [[(*rows[0][:at], number, *rows[0][at + 1:])] for number in (worth, beyond)]
                    for row, refusal in ((good, BadWish), (bad, error)):
                        menu, wants = (row, self.wants) if rows is self.menu else (self.menu, row)
                        self.refused(refusal, House(), menu, wants, most=-1)

    def test_most_below_nought_goes_last(self):
        self.refused(BadWish, House(), self.menu, self.wants, most=-1)
        self.refused(BadWish, House(), self.menu, self.wants, most=-10 ** 29)


if __name__ == "__main__":
    unittest.main()
