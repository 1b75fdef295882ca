"""The error classes: parents, words, fields, and which of Python's kinds they are."""

import unittest

from hueshade import errors

HEADS = {"ShadeError": ValueError, "Missing": LookupError, "Crowded": RuntimeError}

UNDER = {
    "ShadeError": (
        "BadPlace", "BadLight", "BadSift", "BadBlock", "BadPiece", "BadMenu", "BadChoice", "BadSetting",
        "BadSort", "BadDeed", "BadView", "BadWish", "BadText", "Nought", "Unknown",
    ),
    "Missing": ("NoThing", "NoLook", "NothingLeft"),
    "Crowded": ("Full", "Looked", "TooMany"),
}

FIELDS = {
    "BadText": (("row", 7),),
    "NoThing": (("kind", "pane"), ("number", 3)),
    "NoLook": (("number", 5),),
    "Looked": (("number", 2),),
}


def all_under():
    return [(head, name) for head, names in UNDER.items() for name in names]


def made(name):
    return getattr(errors, name)(*[worth for field, worth in FIELDS.get(name, ())])


class TestParents(unittest.TestCase):
    def test_heads_stand_straight_under_pythons_errors(self):
        for name, base in HEADS.items():
            self.assertEqual(getattr(errors, name).__bases__, (base,), name)

    def test_each_class_stands_straight_under_its_head(self):
        for head, name in all_under():
            self.assertEqual(getattr(errors, name).__bases__, (getattr(errors, head),), name)

    def test_each_class_is_of_one_python_kind_and_not_of_the_others(self):
        for head, name in [(head, head) for head in HEADS] + all_under():
            for base in (ValueError, LookupError, RuntimeError):
                told = issubclass(getattr(errors, name), base)
                self.assertEqual(told, base is HEADS[head], (name, base))

    def test_none_is_one_of_pythons_narrower_kinds(self):
        for head, name in all_under():
            self.assertFalse(
                issubclass(getattr(errors, name), (KeyError, IndexError, NotImplementedError, RecursionError)), name
            )

    def test_no_class_stands_under_two_heads(self):
        for head, name in all_under():
            for other in HEADS:
                told = issubclass(getattr(errors, name), getattr(errors, other))
                self.assertEqual(told, other == head, (name, other))

    def test_heads_can_be_made_and_caught_as_pythons_errors(self):
        for name, base in HEADS.items():
            with self.assertRaises(base):
                raise getattr(errors, name)("why")


class TestWords(unittest.TestCase):
    def test_word_is_the_name_in_small_letters(self):
        for head, name in all_under():
            self.assertEqual(made(name).word, name.lower(), name)

    def test_word_stands_also_with_a_message(self):
        for head, name in all_under():
            if name not in FIELDS:
                self.assertEqual(getattr(errors, name)("some words").word, name.lower(), name)
                self.assertEqual(str(getattr(errors, name)("some words")), "some words", name)

    def test_word_is_read_off_what_was_raised(self):
        for head, name in all_under():
            with self.assertRaises(getattr(errors, head)) as caught:
                raise made(name)
            self.assertEqual(caught.exception.word, name.lower(), name)

    def test_nothing_and_nothingleft_differ(self):
        self.assertEqual(errors.NoThing("lamp", 1).word, "nothing")
        self.assertEqual(errors.NothingLeft().word, "nothingleft")


class TestFields(unittest.TestCase):
    def test_fields_are_made_in_their_order(self):
        for name, fields in FIELDS.items():
            for field, worth in fields:
                self.assertEqual(getattr(made(name), field), worth, (name, field))

    def test_fields_are_made_by_their_names(self):
        for name, fields in FIELDS.items():
            error = getattr(errors, name)(**dict(fields))
            for field, worth in fields:
                self.assertEqual(getattr(error, field), worth, (name, field))

    def test_row_is_nought_where_it_is_left_out(self):
        self.assertEqual(errors.BadText().row, 0)
        self.assertEqual(errors.BadText(0).row, 0)
        self.assertEqual(errors.BadText(12).row, 12)

    def test_other_fields_may_not_be_left_out(self):
        for make in (errors.NoThing, errors.NoLook, errors.Looked):
            with self.assertRaises(TypeError):
                make()
        with self.assertRaises(TypeError):
            errors.NoThing("lamp")

    def test_objects_have_nothing_to_do_with_one_another(self):
        first = errors.NoThing("lamp", 1)
        second = errors.NoThing("post", 2)
        self.assertEqual((first.kind, first.number), ("lamp", 1))
        self.assertEqual((second.kind, second.number), ("post", 2))

    def test_classes_without_fields_have_none(self):
        for head, name in all_under():
            if name not in FIELDS:
                self.assertEqual(vars(made(name)), {"word": name.lower()}, name)


if __name__ == "__main__":
    unittest.main()
