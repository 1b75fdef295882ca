"""Pages: houses written and read."""

import unittest

import plainhouse
import plaintexts
from making import TWO, house_of

from hueshade.errors import BadText
from hueshade.house import House
from hueshade.pages import page, read_page
from hueshade.texts import deed_text

SMALL = "lamp 0 0 1 1 1\nmany 2\nunsure 0 0 1 0 0 / 9 0 0 1 0\nswitch 2\npost 0 0 1 1\nmany 0\n"


def some_page_house(chance, turns=25):
    """A house of some deeds, many among them, some of them undone."""
    house = House()
    for turn in range(turns):
        deeds = [plainhouse.some_deed(chance) for within in range(chance.choice((0, 1, 1, 1, 2, 3)))]
        try:
            if chance.random() < 0.1:
                house.undo()
            elif len(deeds) == 1:
                house.do(deeds[0])
            else:
                house.many(deeds)
        except (ValueError, LookupError, RuntimeError):
            continue
    return house


def plain_page(text):
    """The deeds of a page by another way, or the row that is told."""
    *rows, rest = text.split("\n")
    plain = plainhouse.PlainHouse()
    try:
        for first, deed in plaintexts.plain_deeds(rows):
            try:
                plain.do(deed)
            except plainhouse.Refused:
                return first
    except plaintexts.Spoilt as spoilt:
        return spoilt.row
    return len(rows) if rest else [deed for deed, before in plain.past]


class TestPage(unittest.TestCase):
    def spoilt(self, text, row):
        with self.assertRaises(BadText) as caught:
            read_page(text)
        self.assertEqual(caught.exception.row, row, text)

    def test_of_nothing(self):
        self.assertEqual(page(House()), "")
        self.assertEqual(read_page(""), House())
        self.assertEqual(read_page("").deeds(), [])

    def test_there_and_back(self):
        house = house_of(
            ("lamp", 0, 0, 1, 1, 1), ("many", (("unsure", TWO), ("switch", 2))), ("post", 0, 0, 1, 1), ("many", ())
        )
        self.assertEqual(page(house), SMALL)
        self.assertEqual(page(house=house), str(house))
        back = read_page(text=SMALL)
        self.assertIsInstance(back, House)
        self.assertEqual(back, house)
        self.assertEqual(back.deeds(), house.deeds())
        self.assertEqual(page(back), SMALL)

    def test_every_deed(self):
        house = house_of(
            ("lamp", -1, 0, 1, 1, 1), ("unsure", TWO), ("post", 0, 0, 1, 1), ("pane", 0, 0, 1, 1, ""), ("pane", 0, 0, 1, 1, "rb"),
            ("move", "post", 1, -4, 2), ("switch", 1), ("look", 3, 3, 0, 12000000, 0), ("settle", 2, 1), ("strike", 1),
            ("drop", "lamp", 1), ("drop", "pane", 2), ("move", "lamp", 2, -1000000, 1000000),
        )
        back = read_page(page(house))
        self.assertEqual((back, back.deeds()), (house, house.deeds()))

    def test_what_is_read_can_be_undone_and_nothing_done_again(self):
        house = read_page(SMALL)
        self.assertRaises(LookupError, house.redo)
        self.assertEqual(house.undo(), ("many", ()))
        self.assertEqual(house.undo(), ("post", 0, 0, 1, 1))
        self.assertEqual(house.undo(), ("many", (("unsure", TWO), ("switch", 2))))
        self.assertEqual(house.undo(), ("lamp", 0, 0, 1, 1, 1))
        self.assertRaises(LookupError, house.undo)
        self.assertEqual(house, House())

    def test_what_was_undone_is_not_on_it(self):
        house = house_of(("lamp", 0, 0, 1, 1, 1), ("post", 0, 0, 1, 1))
        house.undo()
        self.assertEqual(page(house), "lamp 0 0 1 1 1\n")
        house.redo()
        self.assertEqual(page(house), "lamp 0 0 1 1 1\npost 0 0 1 1\n")

    def test_some_houses_there_and_back(self):
        for seed in range(60):
            house = some_page_house(plainhouse.seeded(seed))
            text = page(house)
            self.assertEqual(text, "".join(deed_text(deed) + "\n" for deed in house.deeds()))
            self.assertEqual(text, str(house))
            back = read_page(text)
            self.assertEqual(back, house, text)
            self.assertEqual(back.deeds(), house.deeds())
            self.assertEqual((back.fits(), page(back)), (house.fits(), text))

    def test_houses_that_are_read_are_apart(self):
        one, other = read_page(SMALL), read_page(SMALL)
        one.lamp(5, 5)
        self.assertNotEqual(one, other)
        self.assertEqual(other, read_page(SMALL))

    def test_rows_that_are_not_so_written(self):
        self.spoilt("\n", 0)
        self.spoilt("lamp 0 0 1 1\n", 0)
        self.spoilt("lamp 0 0 1 1 1\n\nlamp 0 0 1 1 1\n", 1)
        self.spoilt("lamp 0 0 1 1 1\nlamp 0 0 1 1 01\nlamp\n", 1)
        self.spoilt("lamp 0 0 1 1 1\nundo\n", 1)
        self.spoilt("lamp 0 0 1 1 1 \n", 0)

    def test_a_row_that_lacks_its_line_feed(self):
        self.spoilt("lamp 0 0 1 1 1", 0)
        self.spoilt("lamp 0 0 1 1 1\npost 0 0 1 1", 1)
        self.spoilt(" ", 0)
        self.spoilt(SMALL[:-1], 5)
        self.spoilt("lamp 0 0 1 1 1\nswitch 9", 1)
        self.spoilt("lamp 0 0 1 1 1\nswitch 9\nswitch 1", 1)

    def test_a_row_that_is_refused(self):
        self.spoilt("switch 1\n", 0)
        self.spoilt("lamp 0 0 1 1 1\nlamp 1000001 0 1 1 1\nlamps\n", 1)
        self.spoilt("lamp 0 0 1 1 1\nmove chair 1 0 0\n", 1)
        self.spoilt("pane 0 0 1 1 x\n", 0)
        self.spoilt("unsure 0 0 1 1 1\n", 0)
        self.spoilt("lamp 0 0 1 1 1\n" * 13, 12)
        self.spoilt("lamp 0 0 1 1 1\nlook 0 0 1 1 1\ndrop lamp 1\n", 2)

    def test_a_many_that_is_refused(self):
        self.spoilt("post 0 0 1 1\nmany 2\nlamp 0 0 1 1 1\nswitch 2\n", 1)
        self.spoilt("post 0 0 1 1\nmany 2\nswitch 2\nlamp 0 0 1 1 1\nlamps\n", 1)
        self.spoilt("post 0 0 1 1\nmany 2\nswitch 2\nlamps\n", 3)
        self.spoilt("post 0 0 1 1\nmany 2\nswitch 2\nmany 0\n", 3)
        self.spoilt("post 0 0 1 1\nmany 3\nswitch 2\nlamp 0 0 1 1 1\n", 4)

    def test_rows_that_lack_behind_many(self):
        self.spoilt("many 1\n", 1)
        self.spoilt("many 1", 0)
        self.spoilt("many 2\nlamp 0 0 1 1 1\n", 2)
        self.spoilt("many 2\nlamp 0 0 1 1 1\nlamp 0 0 1 1 1", 2)
        self.spoilt("many 3\nlamp 0 0 1 1 1\nlamp", 2)
        self.spoilt("post 0 0 1 1\nmany 999999999\nlamp 0 0 1 1 1\n", 3)
        self.spoilt("many 1\n\n", 1)

    def test_spoilt_pages_by_another_way(self):
        good = bad = 0
        for seed in range(1500):
            chance = plainhouse.seeded(seed)
            text = page(some_page_house(chance, 8))
            for turn in range(chance.randint(1, 2)):
                text = plaintexts.spoil(chance, text)
            told = plain_page(text)
            if isinstance(told, int):
                self.spoilt(text, told)
                bad += 1
            else:
                house = read_page(text)
                self.assertEqual(house.deeds(), told, text)
                self.assertEqual(page(house), text)
                good += 1
        self.assertTrue(good > 200 and bad > 500, (good, bad))

    def test_every_cut_of_a_page(self):
        for length in range(len(SMALL)):
            told = plain_page(SMALL[:length])
            if isinstance(told, int):
                self.spoilt(SMALL[:length], told)
            else:
                self.assertEqual(read_page(SMALL[:length]).deeds(), told)


if __name__ == "__main__":
    unittest.main()
