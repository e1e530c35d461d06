"""The head of the section "The interface", for plain functions: in which file each is, and its arguments."""
import importlib
import inspect
import unittest

FUNCTIONS = {
    "tables": {"judged": ["things", "rank", "signs"]},
    "makers": {"of_columns": ["columns"], "of_web": ["knots", "arrows"], "spread": ["things", "rank"]},
    "rings": {"rings": ["house"], "cuts": ["house"], "half_cuts": ["house"], "are_square": ["one", "other"]},
    "flats": {
        "rank_of": ["house", "things"], "closed": ["house", "things"], "loops": ["house"], "bridges": ["house"],
        "families": ["house"], "parts": ["house"],
    },
    "minors": {
        "dual": ["house"], "struck": ["house", "thing"], "drawn": ["house", "thing"], "turned": ["house", "things"],
        "moved": ["house", "order"], "beside": ["one", "other"],
    },
    "rows": {
        "behind": ["one", "other"], "is_below": ["one", "other"], "stands": ["house", "row"], "all_rows": ["house"],
        "fields": ["house"], "many_fields": ["house"],
    },
    "colours": {
        "suits_ring": ["row", "colours"], "suits_cut": ["row", "colours"],
        "ring_or_cut": ["house", "colours", "mark"],
    },
}


def each():
    for file, functions in FUNCTIONS.items():
        module = importlib.import_module("signcleave." + file)
        for name, arguments in functions.items():
            yield module, name, arguments


class Functions(unittest.TestCase):

    def test_each_is_defined_in_its_file(self):
        for module, name, _ in each():
            with self.subTest(module=module.__name__, name=name):
                kept = getattr(module, name)
                self.assertTrue(inspect.isfunction(kept))
                self.assertEqual(kept.__module__, module.__name__)
                self.assertEqual(kept.__name__, name)

    def test_arguments_by_place_or_name_none_left_out(self):
        for module, name, arguments in each():
            with self.subTest(module=module.__name__, name=name):
                told = inspect.signature(getattr(module, name)).parameters
                self.assertEqual(list(told), arguments)
                for argument in told.values():
                    self.assertEqual(argument.kind, argument.POSITIONAL_OR_KEYWORD)
                    self.assertIs(argument.default, argument.empty)


if __name__ == "__main__":
    unittest.main()
