"""The error classes of the interface: names, base classes, fields and word."""
import inspect
import unittest

from signcleave import errors
from signcleave.errors import CleaveError, HouseError

CLEAVE = {
    "BadCount": (), "BadLot": (), "BadBox": (), "BadTable": (), "NoHouse": ("why",), "BadColumn": (), "Flat": (),
    "BadWeb": (), "BadThing": (), "BadOrder": (), "BadRow": (), "BadColours": (), "BadMark": (), "NoBase": (),
    "InBase": (), "OutBase": (), "NoChange": (), "Same": (), "NoStart": ("why",), "BadText": ("at",),
    "BadAsking": (), "BadSteps": (), "BadSigns": (), "NotLet": ("why",), "BadName": (), "BadRecipe": (),
    "BadDeed": (), "BadPage": ("row",),
}
HOUSE = {
    "Taken": (), "NoName": ("name",), "NoMake": ("kind",), "Held": ("by",), "Used": ("by",), "NoWatch": ("number",),
    "Full": (), "TooMany": (), "NoWall": (), "Nothing": (), "Stopped": ("at", "kind"),
}
# A field tells what was handed in for it: numbers, words, and what judged tells.
SAMPLES = {
    "why": [("none",), ("exchange", (0, 1), (2, 3), 0), ("three", (), (0, 1, 2, 3)), "loop", "bridge"],
    "at": [0, 7], "row": [0, 12], "name": ["a", "house"], "kind": ["BadThing", "Flat"],
    "by": ["a", 3], "number": [1, 999999999],
}


def listed():
    return {**CLEAVE, **HOUSE}


def made(name, pick=0):
    """An error of that name, and the values of its fields."""
    values = {field: SAMPLES[field][pick % len(SAMPLES[field])] for field in listed()[name]}
    return getattr(errors, name)(*values.values()), values


class Classes(unittest.TestCase):

    def test_the_file_holds_these_classes_alone(self):
        held = {name for name, kind in inspect.getmembers(errors, inspect.isclass)}
        self.assertEqual(held, set(listed()) | {"CleaveError", "HouseError"})

    def test_each_is_defined_in_this_file(self):
        for name in [*listed(), "CleaveError", "HouseError"]:
            with self.subTest(name):
                self.assertEqual(getattr(errors, name).__module__, "signcleave.errors")
                self.assertEqual(getattr(errors, name).__name__, name)

    def test_the_two_heads(self):
        self.assertEqual(CleaveError.__bases__, (ValueError,))
        self.assertEqual(HouseError.__bases__, (LookupError,))

    def test_each_stands_straight_under_its_head(self):
        for names, head in ((CLEAVE, CleaveError), (HOUSE, HouseError)):
            for name in names:
                with self.subTest(name):
                    self.assertEqual(getattr(errors, name).__bases__, (head,))

    def test_none_stands_under_another_one(self):
        kinds = [getattr(errors, name) for name in listed()]
        for one in kinds:
            for other in kinds:
                if one is not other:
                    self.assertFalse(issubclass(one, other), (one, other))

    def test_the_heads_are_apart(self):
        self.assertFalse(issubclass(CleaveError, HouseError))
        self.assertFalse(issubclass(CleaveError, LookupError))
        self.assertFalse(issubclass(HouseError, CleaveError))
        self.assertFalse(issubclass(HouseError, ValueError))


class Fields(unittest.TestCase):

    def test_word_is_the_name_of_the_class(self):
        for name in listed():
            with self.subTest(name):
                error, _ = made(name)
                self.assertEqual(error.word, name)
                self.assertIs(type(error.word), str)

    def test_the_heads_have_their_word_too(self):
        self.assertEqual(CleaveError().word, "CleaveError")
        self.assertEqual(HouseError().word, "HouseError")

    def test_fields_tell_what_they_were_given(self):
        for name in listed():
            for pick in range(5):
                error, values = made(name, pick)
                with self.subTest(name, values=values):
                    for field, value in values.items():
                        self.assertEqual(getattr(error, field), value)

    def test_fields_stand_on_the_object_and_no_others_do(self):
        for name, fields in listed().items():
            with self.subTest(name):
                error, _ = made(name)
                self.assertEqual(set(vars(error)), {"word", *fields})

    def test_two_errors_of_one_class_keep_apart(self):
        one, other = errors.NoName("a"), errors.NoName("b")
        self.assertEqual((one.name, other.name), ("a", "b"))
        one.word = "changed"
        self.assertEqual(other.word, "NoName")

    def test_each_can_be_raised_and_caught_under_its_head(self):
        for name in listed():
            with self.subTest(name):
                error, _ = made(name)
                with self.assertRaises(CleaveError if name in CLEAVE else HouseError) as caught:
                    raise error
                self.assertIs(caught.exception, error)

    def test_each_tells_a_text(self):
        for name in listed():
            error, _ = made(name)
            self.assertIs(type(str(error)), str)


if __name__ == "__main__":
    unittest.main()
