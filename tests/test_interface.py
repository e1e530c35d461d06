"""The head of the section "The interface": in which file each name is defined, and its arguments."""
import importlib
import inspect
import unittest

FUNCTIONS = {
    "lots": {"lots": ["many", "size"], "place_of": ["lot", "many"], "order_sign": ["row"]},
    "boxes": {"box": ["rows"], "box_sign": ["rows"]},
    "tables": {"judged": ["things", "rank", "signs"]},
    "makers": {"of_columns": ["columns"], "of_web": ["knots", "arrows"], "spread": ["things", "rank"]},
    "rings": {"rings": ["house"], "cuts": ["house"], "half_cuts": ["house"], "are_square": ["one", "other"]},
    "flats": {
        "rank_of": ["house", "things"], "closed": ["house", "things"], "loops": ["house"], "bridges": ["house"],
        "families": ["house"], "parts": ["house"],
    },
    "minors": {
        "dual": ["house"], "struck": ["house", "thing"], "drawn": ["house", "thing"], "turned": ["house", "things"],
        "moved": ["house", "order"], "beside": ["one", "other"],
    },
    "rows": {
        "behind": ["one", "other"], "is_below": ["one", "other"], "stands": ["house", "row"], "all_rows": ["house"],
        "fields": ["house"], "many_fields": ["house"],
    },
    "colours": {
        "suits_ring": ["row", "colours"], "suits_cut": ["row", "colours"],
        "ring_or_cut": ["house", "colours", "mark"],
    },
    "askings": {"read_asking": ["text"], "asking_text": ["asking"]},
    "answers": {"answered": ["house", "asking"], "shows": ["house", "asking", "answer"]},
    "growing": {
        "leaned": ["house", "steps"], "grown": ["house", "signs"], "flippable": ["house"], "flipped": ["house", "lot"],
    },
    "walker": {"way": ["house", "one", "other"]},
    "pages": {"page": ["book"], "read_page": ["text"]},
}
# The classes: their files, and the arguments of their methods, those handed in by name alone with what they are when
# left out.
CLASSES = {
    ("house", "House"): {
        "__init__": ["things", "rank", "signs"], "things": [], "rank": [], "signs": [], "sign": ["row"], "bases": [],
        "__len__": [], "__eq__": ["other"], "__repr__": [], "__str__": [],
    },
    ("tableau", "Tableau"): {
        "__init__": ["house", "base"], "base": [], "ring": ["thing"], "cut": ["thing"], "table": [],
        "change": ["out", "into"], "twin": [],
    },
    ("runner", "Runner"): {
        "__init__": ["house", ("bound", 0), ("aim", 1)], "base": [], "point": [], "price": [], "wrong": [],
        "verdict": [], "step": [], "run": [("most", None)], "back": [], "twin": [], "__len__": [],
    },
    ("walker", "Walker"): {
        "__init__": ["house", "start"], "field": [], "walls": [], "go": ["thing"], "back": [], "twin": [],
        "__len__": [],
    },
    ("book", "Book"): {
        "__init__": [], "do": ["deed"], "keep": ["name", "recipe"], "change": ["name", "recipe"], "drop": ["name"],
        "watch": ["name", "colours", ("mark", 0)], "leave": ["number"], "several": ["deeds"], "trial": ["deeds"],
        "undo": [], "redo": [], "past": [], "names": [], "recipe": ["name"], "house": ["name"], "watches": [],
        "told": ["number"], "coming": [], "twin": [], "__len__": [], "__eq__": ["other"], "__repr__": [],
    },
}
VALUES = {"lots": {"MOST": 7}, "book": {"NAMES": 8, "WATCHES": 6}}


def each():
    for file, functions in FUNCTIONS.items():
        module = importlib.import_module("signcleave." + file)
        for name, arguments in functions.items():
            yield module, name, arguments


class Functions(unittest.TestCase):

    def test_each_is_defined_in_its_file(self):
        for module, name, _ in each():
            with self.subTest(module=module.__name__, name=name):
                kept = getattr(module, name)
                self.assertTrue(inspect.isfunction(kept))
                self.assertEqual(kept.__module__, module.__name__)
                self.assertEqual(kept.__name__, name)

    def test_arguments_by_place_or_name_none_left_out(self):
        for module, name, arguments in each():
            with self.subTest(module=module.__name__, name=name):
                told = inspect.signature(getattr(module, name)).parameters
                self.assertEqual(list(told), arguments)
                for argument in told.values():
                    self.assertEqual(argument.kind, argument.POSITIONAL_OR_KEYWORD)
                    self.assertIs(argument.default, argument.empty)


class Classes(unittest.TestCase):

    def each(self):
        for (file, name), methods in CLASSES.items():
            module = importlib.import_module("signcleave." + file)
            for method, arguments in methods.items():
                yield module, getattr(module, name), method, arguments

    def test_each_method_is_defined_in_the_class_itself(self):
        for module, kind, method, _ in self.each():
            self.assertEqual(kind.__module__, module.__name__)
            self.assertIn(method, vars(kind), kind)
            self.assertTrue(inspect.isfunction(vars(kind)[method]), (kind, method))
            self.assertEqual(vars(kind)[method].__module__, module.__name__)

    def test_arguments(self):
        for _, kind, method, arguments in self.each():
            told = list(inspect.signature(vars(kind)[method]).parameters.values())[1:]
            wanted = [one if type(one) is tuple else (one, inspect.Parameter.empty) for one in arguments]
            self.assertEqual([(one.name, one.default) for one in told], wanted, (kind, method))
            for one, argument in zip(told, arguments):
                by_name = type(argument) is tuple
                self.assertEqual(one.kind, one.KEYWORD_ONLY if by_name else one.POSITIONAL_OR_KEYWORD)


class Values(unittest.TestCase):

    def test_numbers(self):
        for file, values in VALUES.items():
            for name, worth in values.items():
                self.assertEqual(getattr(importlib.import_module("signcleave." + file), name), worth)


if __name__ == "__main__":
    unittest.main()
