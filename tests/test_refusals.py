"""Each refusal by its cause: of its own class and of no other one, with its word and its fields."""

import unittest

from making import TWO, house_of

from hueshade import errors
from hueshade.figures import side
from hueshade.house import House
from hueshade.lights import both_sifts, sifted
from hueshade.menus import all_rows, row_at, row_number
from hueshade.numbers import FAR, fraction
from hueshade.pages import read_page
from hueshade.parting import parting
from hueshade.plans import plan, plan_paper, seen
from hueshade.texts import read_deed
from hueshade.wishes import wish, wish_paper

LAMP = ("lamp", 0, 0, 1, 1, 1)
KINDS = {"ShadeError": ValueError, "Missing": LookupError, "Crowded": RuntimeError}
FIELDS = ("kind", "number", "row")


def open_house():
    return house_of(("unsure", TWO))


def looked_house():
    return house_of(LAMP, ("look", 0, 0, 1, 1, 1), ("strike", 1), ("look", 0, 0, 1, 1, 1), ("look", 5, 5, 1, 1, 1))


# For each class rows of a cause and the fields that it tells.
CAUSES = {
    "BadPlace": (
        (lambda: House().lamp(FAR + 1, 0), {}), (lambda: House().light(0, -FAR - 1), {}),
        (lambda: House().along((0, 0), (FAR + 1, 0)), {}), (lambda: seen(House(), ((), FAR + 1, 0), None), {}),
        (lambda: parting(House(), House(), [], [(FAR + 1, 0)]), {}),
    ),
    "BadLight": (
        (lambda: House().lamp(0, 0, light=(0, 0, -1)), {}), (lambda: House().look(0, 0, (12000001, 0, 0)), {}),
        (lambda: wish(House(), [(0, 0, 0, 0, 1000001)], []), {}),
    ),
    "BadSift": (
        (lambda: House().pane((0, 0), (1, 1), sift="x"), {}), (lambda: sifted((1, 1, 1), "x"), {}),
        (lambda: both_sifts("r", "x"), {}),
    ),
    "BadBlock": ((lambda: House().post(1, 0, 0, 0), {}),),
    "BadPiece": ((lambda: House().pane((0, 0), (0, 0)), {}), (lambda: House().along((1, 1), (1, 1)), {})),
    "BadMenu": ((lambda: House().unsure([]), {}), (lambda: wish_paper(House(), [], []), {})),
    "BadChoice": ((lambda: house_of(LAMP).settle(1, 1), {}),),
    "BadSetting": (
        (lambda: House().light(0, 0, setting=(0,)), {}), (lambda: row_number([2], (2,)), {}), (lambda: row_at([2], 2), {}),
        (lambda: House().share_light((0, 0), (1, 1), (2, 1)), {}),
    ),
    "BadSort": ((lambda: House().drop("chair", 1), {}), (lambda: House().coming("chair"), {})),
    "BadDeed": ((lambda: House().do(()), {}), (lambda: House().many([("many", ())]), {})),
    "BadView": ((lambda: plan(House(), []), {}), (lambda: plan_paper(House(), [((), 0, 0)], looks=-1), {})),
    "BadWish": ((lambda: wish(House(), [LAMP[1:]], []), {}), (lambda: wish(House(), [LAMP[1:]], [LAMP[1:]], most=-1), {})),
    "BadText": (
        (lambda: read_deed(""), {"row": 0}), (lambda: read_deed("many 2\nswitch 1\nmany 0"), {"row": 2}),
        (lambda: read_page("lamp 0 0 1 1 1\nswitch 2\n"), {"row": 1}),
    ),
    "Nought": ((lambda: fraction(1, 0), {}),),
    "Unknown": ((lambda: open_house().light(0, 0), {}), (lambda: wish(open_house(), [], []), {})),
    "NoThing": (
        (lambda: House().switch(3), {"kind": "lamp", "number": 3}), (lambda: House().drop("post", 2), {"kind": "post", "number": 2}),
        (lambda: House().move("pane", -1), {"kind": "pane", "number": -1}), (lambda: House().left(1), {"kind": "lamp", "number": 1}),
        (lambda: House().settle(10 ** 29), {"kind": "lamp", "number": 10 ** 29}),
    ),
    "NoLook": ((lambda: House().strike(4), {"number": 4}), (lambda: House().floor_of(0), {"number": 0})),
    "NothingLeft": ((lambda: House().undo(), {}), (lambda: House().redo(), {})),
    "Full": (
        (lambda: House().many([LAMP] * 13), {}), (lambda: House().many([("look", 0, 0, 1, 1, 1)] * 25), {}),
        (lambda: House().many([("unsure", TWO)] * 8), {}),
    ),
    "Looked": ((lambda: looked_house().drop("lamp", 1), {"number": 2}),),
    "TooMany": ((lambda: all_rows([201]), {}), (lambda: plan(house_of(*[("unsure", TWO)] * 5), [((), 0, 0)]), {})),
}


def own_classes():
    return {name: told for name, told in vars(errors).items() if isinstance(told, type)}


class TestRefusals(unittest.TestCase):
    def caught(self, cause):
        try:
            cause()
        except Exception as refusal:
            return refusal
        self.fail("nothing was refused")

    def rows(self):
        return [(name, *row) for name, rows in CAUSES.items() for row in rows]

    def test_all_classes_are_caused(self):
        under = {name for name, told in own_classes().items() if told.__base__.__name__ in KINDS}
        self.assertEqual(set(CAUSES), under)
        self.assertEqual(len(CAUSES), 21)

    def test_each_is_of_its_own_class_and_of_no_other_one(self):
        for name, cause, fields in self.rows():
            refusal = self.caught(cause)
            head = type(refusal).__base__.__name__
            told = [other for other, kind in own_classes().items() if isinstance(refusal, kind)]
            self.assertEqual(sorted(told), sorted([name, head]), name)
            for other, kind in KINDS.items():
                self.assertEqual(isinstance(refusal, kind), other == head, name)
            self.assertNotIsInstance(refusal, (KeyError, IndexError, NotImplementedError, RecursionError))

    def test_words_and_fields(self):
        for name, cause, fields in self.rows():
            refusal = self.caught(cause)
            self.assertEqual(refusal.word, name.lower())
            told = {field: getattr(refusal, field) for field in FIELDS if hasattr(refusal, field)}
            self.assertEqual(told, fields, name)

    def test_they_can_be_caught_by_pythons_kinds(self):
        self.assertRaises(ValueError, House().light, FAR + 1, 0)
        self.assertRaises(LookupError, House().undo)
        self.assertRaises(RuntimeError, House().many, [LAMP] * 13)


class TestByName(unittest.TestCase):
    """Each method and function by the names of its arguments, in another order, and with what may be left out."""

    def test_deeds(self):
        house = House()
        self.assertEqual(house.lamp(light=(1, 2, 3), up=1, across=2), 1)
        self.assertEqual(house.unsure(choices=TWO), 2)
        self.assertEqual(house.post(high=9, low=1, right=9, left=1), 1)
        self.assertEqual(house.post(low=1, left=1), 2)
        self.assertEqual(house.pane(sift="r", other=(1, 1), one=(0, 0)), 1)
        self.assertEqual(house.look(light=(0, 0, 0), up=1, across=1), 1)
        self.assertIsNone(house.move(up=1, right=2, number=1, sort="lamp"))
        self.assertIsNone(house.move(number=1, sort="lamp"))
        self.assertIsNone(house.switch(number=1))
        self.assertIsNone(house.settle(at=1, number=2))
        self.assertIsNone(house.settle(number=1))
        self.assertIsNone(house.strike(number=1))
        self.assertIsNone(house.drop(number=2, sort="post"))
        self.assertEqual(house.do(deed=("switch", 1)), None)
        self.assertEqual(house.many(deeds=[]), [])
        self.assertEqual(house.trial(deeds=[LAMP]), [3])

    def test_questions(self):
        house = house_of(LAMP, ("look", 1, 1, 1, 1, 1))
        self.assertEqual(house.light(up=1, across=1), house.light(setting=(), up=1, across=1))
        self.assertEqual(house.reasons(up=1, across=1), house.reasons(setting=None, up=1, across=1))
        self.assertEqual(house.along(other=(1, 1), one=(0, 1)), house.along((0, 1), (1, 1), setting=()))
        self.assertEqual(house.share_light(share=(1, 2), other=(1, 1), one=(0, 1)), (1, 1, 1))
        self.assertEqual(house.lights(up=1, across=1), [(1, 1, 1)])
        self.assertEqual((house.left(number=1), house.coming(sort="look")), ([0], 2))
        self.assertEqual(house.floor_of(number=1).lamps(), house.lamps())

    def test_what_stands_behind_a_star_is_handed_in_by_its_name_alone(self):
        house = house_of(LAMP)
        for ask in (
            lambda: house.lamp(0, 0, (1, 1, 1)), lambda: house.pane((0, 0), (1, 1), "r"), lambda: house.move("lamp", 1, 1),
            lambda: house.light(0, 0, ()), lambda: house.reasons(0, 0, ()), lambda: house.along((0, 0), (1, 1), ()),
            lambda: house.share_light((0, 0), (1, 1), (1, 2), ()), lambda: plan_paper(house, [((), 0, 0)], 0),
            lambda: wish(house, [LAMP[1:]], [LAMP[1:]], 8), lambda: wish_paper(house, [LAMP[1:]], [LAMP[1:]], 0),
            lambda: all_rows([1], 200),
        ):
            self.assertRaises(TypeError, ask)
        self.assertEqual(house.deeds(), [LAMP])

    def test_functions(self):
        house = house_of(LAMP)
        menu, wants = [LAMP[1:]], [(5, 5, 2, 2, 2)]
        self.assertEqual(seen(setting=(), view=((), 1, 1), house=house), (1, 1, 1))
        self.assertEqual(plan(views=[((), 1, 1)], house=house), ("done", [()]))
        self.assertIsNone(plan_paper(looks=1, views=[((), 1, 1)], house=house))
        self.assertIsNone(parting(places=[(1, 1)], things=[], other=house, one=house))
        self.assertEqual(wish(most=1, wants=wants, menu=menu, house=house), [0])
        self.assertIsNone(wish_paper(most=1, wants=wants, menu=menu, house=house))
        self.assertEqual(wish_paper(wants=wants, menu=menu, house=house), ("short", 0, 0))
        self.assertEqual(side(place=(0, 1), other=(1, 0), one=(0, 0)), 1)


if __name__ == "__main__":
    unittest.main()
