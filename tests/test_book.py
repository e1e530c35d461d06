"""Points 24, 25 and 26: books, deeds, what is taken back; points 1 and 2 where they speak of these."""
import unittest
from random import Random

from plain_books import BAD_STARTS, NAMES, STARTS, PlainBook, Refused, deed_by_chance, frozen, make
from signcleave import book as module
from signcleave.book import Book
from signcleave.colours import ring_or_cut
from signcleave.errors import CleaveError, HouseError
from signcleave.house import House
from signcleave.makers import of_columns, of_web, spread
from signcleave.minors import dual

THREE = ("signs", 3, 2, (1, 1, 1))
TWO = ("signs", 2, 1, (1, 1))
WEB = ("web", 3, ((0, 1), (1, 2), (0, 2)))


def told(book):
    """All that a book tells."""
    return (
        book.names(), [book.recipe(name) for name in book.names()], [book.house(name).signs() for name in book.names()],
        book.watches(), [book.told(number) for number, _, _, _ in book.watches()], book.coming(), len(book), repr(book),
    )


def all_told(book):
    return (*told(book), book.past())


def some_book():
    """A book with a few of each."""
    book = Book()
    book.keep("a", THREE)
    book.keep("b", ("dual", "a"))
    book.keep("c", ("beside", "a", "b"))
    book.watch("a", "+++")
    book.watch("c", "+0*-+-", mark=3)
    return book


class Refusing(unittest.TestCase):

    def refused(self, word, asked, *handed, **fields):
        """Whether what was handed in is refused so, with these fields."""
        with self.subTest(word=word, handed=handed), self.assertRaises((CleaveError, HouseError)) as caught:
            asked(*handed)
        error = caught.exception
        self.assertEqual((error.word, type(error).__name__), (word, word))
        self.assertEqual({name: getattr(error, name) for name in vars(error) if name != "word"}, fields)
        for worth in fields.values():
            self.assertIn(type(worth), (int, str))

    def refused_deed(self, book, word, deed, **fields):
        """Asks for a deed in each way; a refused one changes nothing."""
        before = all_told(book)
        self.refused(word, book.do, deed, **fields)
        asked = {
            "keep": book.keep, "change": book.change, "drop": book.drop, "leave": book.leave, "several": book.several,
        }
        if deed and deed[0] in asked and word != "BadDeed":
            self.refused(word, asked[deed[0]], *deed[1:], **fields)
        if deed and deed[0] == "watch" and word != "BadDeed":
            self.refused(word, lambda *handed: book.watch(*handed[:2], mark=handed[2]), *deed[1:], **fields)
        self.refused("Stopped", book.several, [deed], at=0, kind=word)
        self.refused("Stopped", book.trial, [("several", ()), deed], at=1, kind=word)
        self.assertEqual(all_told(book), before)


class Interface(Refusing):

    def test_counts(self):
        self.assertEqual((module.NAMES, module.WATCHES), (8, 6))

    def test_an_empty_book(self):
        book = Book()
        self.assertEqual(all_told(book), ([], [], [], [], [], 1, 0, "Book(0 houses, 0 watches)", (0, 0)))
        self.assertRaises(TypeError, Book, 1)

    def test_what_a_book_tells(self):
        book = some_book()
        self.assertEqual(book.names(), ["a", "b", "c"])
        self.assertEqual([book.recipe(name) for name in "abc"], [THREE, ("dual", "a"), ("beside", "a", "b")])
        self.assertEqual(book.house("a"), spread(3, 2))
        self.assertEqual(book.house("b"), dual(spread(3, 2)))
        self.assertEqual(book.house("c").things(), 6)
        self.assertEqual(book.watches(), [(1, "a", "+++", 0), (2, "c", "+0*-+-", 3)])
        self.assertEqual(book.told(1), ring_or_cut(spread(3, 2), "+++", 0))
        self.assertEqual(book.told(2), ring_or_cut(book.house("c"), "+0*-+-", 3))
        self.assertEqual((book.coming(), len(book), repr(book)), (3, 3, "Book(3 houses, 2 watches)"))
        self.assertEqual(book.past(), (5, 0))
        self.assertIs(type(book.past()), tuple)

    def test_what_deeds_tell(self):
        book = Book()
        self.assertIsNone(book.keep("a", THREE))
        self.assertIsNone(book.change("a", WEB))
        self.assertEqual(book.watch("a", "+++"), 1)
        self.assertEqual(book.watch("a", "*+-", mark=1), 2)
        self.assertIsNone(book.leave(1))
        self.assertIsNone(book.keep("b", TWO))
        self.assertIsNone(book.drop("b"))
        self.assertEqual(book.several([("keep", "b", TWO), ("watch", "b", "+-", 1), ("several", [("leave", 2)])]),
                         [None, 3, [None]])
        self.assertEqual(book.several([]), [])
        self.assertIsNone(book.undo())
        self.assertIsNone(book.redo())
        for deed, answer in ((("drop", "b"), None), (("watch", "a", "0-*", 1), 4), (("several", ()), [])):
            if deed[0] == "drop":
                book.leave(3)
            self.assertEqual(book.do(deed), answer)

    def test_arguments_by_name(self):
        book = Book()
        book.do(deed=("keep", "a", THREE))
        book.keep(recipe=TWO, name="b")
        book.change(recipe=WEB, name="a")
        self.assertEqual(book.watch(mark=1, colours="*++", name="a"), 1)
        self.assertEqual(book.watch("a", "+*+"), 2)
        self.assertRaises(TypeError, book.watch, "a", "+++", 0)
        self.assertEqual((book.recipe(name="b"), book.house(name="b"), book.told(number=1)[0]), (TWO, spread(2, 1), "cut"))
        book.leave(number=1)
        book.drop(name="b")
        self.assertEqual(book.several(deeds=[("leave", 2)]), [None])
        self.assertEqual(book.trial(deeds=()), [])

    def test_asking_for_what_is_not_there(self):
        book = some_book()
        for name in ("d", "", "A", "longname", "a "):
            self.refused("NoName", book.recipe, name, name=name)
            self.refused("NoName", book.house, name, name=name)
        for number in (0, 3, -1, 999999999):
            self.refused("NoWatch", book.told, number, number=number)


class Keeping(Refusing):

    def test_names(self):
        for name in ("a", "z", "ab", "abcdefgh", "aaaaaaaa"):
            book = Book()
            book.keep(name, THREE)
            self.assertEqual(book.names(), [name])
        for name in ("", "abcdefghi", "A", "aB", "a1", "a b", " a", "a ", "a\n", "a-b", "a_b", "~", "{", "`", "a" * 300):
            self.refused_deed(Book(), "BadName", ("keep", name, THREE))
            self.refused_deed(some_book(), "BadName", ("keep", name, ("dual", name)))

    def test_each_recipe(self):
        book = Book()
        book.keep("s", ("signs", 4, 2, (1, 1, 1, 1, 1, 1)))
        book.keep("w", WEB)
        for recipe, house in (
            (("columns", ((1, 0), (0, 1), (1, 1))), of_columns([[1, 0], [0, 1], [1, 1]])), (WEB, of_web(3, WEB[2])),
            (("dual", "s"), dual(spread(4, 2))), (("struck", "s", 0), spread(3, 2)), (("drawn", "s", 3), spread(3, 1)),
            (("turned", "w", (2, 2, 0)), House(3, 2, [1, 1, 1])), (("moved", "w", (1, 0, 2)), House(3, 2, [-1, -1, 1])),
            (("beside", "w", "w"), make(("beside", "w", "w"), {"w": of_web(3, WEB[2])})),
            (("leaned", "w", ((2, -1), (0, 1))), make(("leaned", "w", ((2, -1), (0, 1))), {"w": of_web(3, WEB[2])})),
            (("leaned", "w", ()), make(("leaned", "w", ()), {"w": of_web(3, WEB[2])})),
            (("signs", 3, 1, (0, -1, 1)), House(3, 1, [0, 1, -1])),
        ):
            book.keep("x", recipe)
            self.assertEqual((book.recipe("x"), book.house("x")), (recipe, house))
            self.assertIs(type(book.recipe("x")), tuple)
            book.drop("x")

    def test_recipes_that_are_none(self):
        book = some_book()
        for recipe in (
            (), ("signs",), ("signs", 3, 2), ("signs", 3, 2, (1, 1, 1), 0), ("columns",), ("columns", ((1,),), 0),
            ("web", 3), ("web", 3, (), ()), ("dual",), ("dual", "a", "b"), ("struck", "a"), ("struck", "a", 0, 1),
            ("drawn", "a"), ("drawn", "a", 0, 0), ("turned", "a"), ("turned", "a", (), ()), ("moved", "a"),
            ("moved", "a", (0, 1, 2), 0), ("beside", "a"), ("beside", "a", "b", "c"), ("leaned", "a"),
            ("leaned", "a", (), 1), ("grown", "a", ()), ("spread", 3, 2), ("Dual", "a"), ("", "a"), ("keep", "a", "b"),
        ):
            self.refused_deed(book, "BadRecipe", ("keep", "x", recipe))
            self.refused_deed(book, "BadRecipe", ("change", "c", recipe))

    def test_names_that_are_not_there(self):
        book = some_book()
        for recipe, name in (
            (("dual", "x"), "x"), (("dual", "y"), "y"), (("struck", "y", 9), "y"), (("drawn", "A", 0), "A"),
            (("turned", "", ()), ""), (("moved", "y", (7,)), "y"), (("beside", "a", "y"), "y"), (("beside", "y", "a"), "y"),
            (("beside", "y", "z"), "y"), (("beside", "x", "x"), "x"), (("leaned", "y", ((9, 9),)), "y"),
        ):
            self.refused_deed(book, "NoName", ("keep", "x", recipe), name=name)

    def test_recipes_that_make_no_house(self):
        book = some_book()
        book.keep("four", ("signs", 4, 2, (1, 1, 1, 1, 1, 1)))
        book.keep("last", TWO)
        for recipe, kind in (
            (("signs", 8, 1, (1,)), "BadCount"), (("signs", 3, 4, (1,)), "BadCount"), (("signs", 3, 2, (1, 1)), "BadTable"),
            (("signs", 3, 2, (1, 1, 2)), "BadTable"), (("signs", 3, 2, (0, 0, 0)), "NoHouse"),
            (("signs", 4, 2, (1, -1, 1, 1, 1, 1)), "NoHouse"), (("columns", ()), "BadColumn"),
            (("columns", ((1,), (1, 2))), "BadColumn"), (("columns", ((0,), (0,))), "Flat"), (("web", 0, ()), "BadWeb"),
            (("web", 2, ((0, 2),)), "BadWeb"), (("struck", "a", 3), "BadThing"), (("drawn", "a", -1), "BadThing"),
            (("turned", "a", (0, 3)), "BadThing"), (("moved", "a", (0, 1)), "BadOrder"), (("moved", "a", (0, 1, 1)), "BadOrder"),
            (("beside", "four", "four"), "TooMany"), (("beside", "c", "a"), "TooMany"), (("leaned", "a", ((0, 0),)), "BadSteps"),
            (("leaned", "a", ((0, 1), (0, 1))), "BadSteps"), (("leaned", "a", ((3, 1),)), "BadSteps"),
        ):
            self.refused_deed(book, "NoMake", ("keep", "x", recipe), kind=kind)
            self.refused_deed(book, "NoMake", ("change", "last", recipe), kind=kind)
        book.keep("seven", ("web", 2, ((0, 1),) * 7))
        self.refused_deed(book, "NoMake", ("keep", "x", ("leaned", "seven", ())), kind="TooMany")
        self.refused_deed(book, "NoMake", ("keep", "x", ("leaned", "seven", ((7, 1),))), kind="BadSteps")

    def test_eight_names(self):
        book = Book()
        for at, name in enumerate("abcdefgh"):
            self.assertEqual(len(book), at)
            book.keep(name, STARTS[at])
        for name in ("i", "z", "longname"):
            self.refused_deed(book, "Full", ("keep", name, THREE))
        book.change("h", WEB)
        book.drop("a")
        book.keep("i", THREE)
        self.assertEqual(book.names(), list("bcdefghi"))
        self.refused_deed(book, "Full", ("keep", "a", THREE))

    def test_which_refusal_goes_first(self):
        book = Book()
        for at, name in enumerate("abcdefgh"):
            book.keep(name, STARTS[at])
        self.refused_deed(book, "BadName", ("keep", "A", ("nothing",)))
        self.refused_deed(book, "Taken", ("keep", "a", ("nothing",)))
        self.refused_deed(book, "Taken", ("keep", "a", ("dual", "x")))
        self.refused_deed(book, "Taken", ("keep", "a", THREE))
        self.refused_deed(book, "BadRecipe", ("keep", "x", ("dual", "x", "y")))
        self.refused_deed(book, "NoName", ("keep", "x", ("struck", "y", 9)), name="y")
        self.refused_deed(book, "NoMake", ("keep", "x", ("struck", "a", 9)), kind="BadThing")
        self.refused_deed(book, "Full", ("keep", "x", ("struck", "a", 0)))

    def test_a_name_kept_again_comes_last(self):
        book = some_book()
        book.leave(2)
        book.drop("c")
        book.keep("d", TWO)
        book.keep("c", ("dual", "d"))
        self.assertEqual(book.names(), ["a", "b", "d", "c"])


class Changing(Refusing):

    def test_what_leans_on_a_name_is_made_anew(self):
        book = some_book()
        book.change("a", WEB)
        self.assertEqual(book.names(), ["a", "b", "c"])
        self.assertEqual(book.recipe("a"), WEB)
        self.assertEqual(book.house("b"), dual(of_web(3, WEB[2])))
        self.assertEqual(book.house("c"), make(("beside", "a", "b"), {"a": of_web(3, WEB[2]), "b": dual(of_web(3, WEB[2]))}))
        self.assertEqual(book.told(1), ring_or_cut(of_web(3, WEB[2]), "+++", 0))

    def test_the_same_recipe_is_a_deed_too(self):
        book = some_book()
        before = told(book)
        book.change("a", THREE)
        self.assertEqual((told(book), book.past()), (before, (6, 0)))

    def test_names_that_are_not_kept_ahead(self):
        book = some_book()
        book.keep("d", TWO)
        for name, recipe, wanted in (
            ("a", ("dual", "a"), "a"), ("a", ("dual", "b"), "b"), ("a", ("beside", "c", "x"), "c"),
            ("b", ("beside", "a", "b"), "b"), ("b", ("beside", "a", "d"), "d"), ("b", ("beside", "x", "d"), "x"),
            ("c", ("struck", "d", 9), "d"), ("d", ("turned", "d", ()), "d"), ("c", ("leaned", "z", ()), "z"),
        ):
            self.refused_deed(book, "NoName", ("change", name, recipe), name=wanted)
        book.change("d", ("beside", "b", "a"))
        self.assertEqual(book.house("d").things(), 6)

    def test_what_leans_on_it_holds_it(self):
        book = Book()
        book.keep("a", ("signs", 4, 2, (1,) * 6))
        book.keep("x", TWO)
        book.keep("b", ("dual", "a"))
        book.keep("c", ("turned", "b", (1,)))
        book.keep("d", ("struck", "c", 3))
        book.keep("e", ("moved", "a", (3, 2, 1, 0)))
        # The house of e couldn't be made either; d is kept ahead of it.
        self.refused_deed(book, "Held", ("change", "a", THREE), by="d")
        # Of one thing alone neither could c.
        self.refused_deed(book, "Held", ("change", "a", ("signs", 1, 1, (1,))), by="c")
        book.drop("d")
        self.refused_deed(book, "Held", ("change", "a", THREE), by="e")
        book.drop("e")
        book.change("a", THREE)
        self.assertEqual(book.house("c").things(), 3)

    def test_too_many_things_by_steps(self):
        book = Book()
        book.keep("a", THREE)
        book.keep("b", ("beside", "a", "a"))
        book.keep("c", ("leaned", "b", ()))
        self.refused_deed(book, "Held", ("change", "a", ("signs", 4, 4, (1,))), by="b")
        book.change("a", TWO)
        self.assertEqual(book.house("c").things(), 5)

    def test_watches_hold_it(self):
        book = Book()
        book.keep("a", THREE)
        book.keep("b", ("dual", "a"))
        book.keep("x", THREE)
        for name, colours in (("x", "+++"), ("b", "-+-"), ("a", "+*+"), ("a", "+++")):
            book.watch(name, colours)
        self.refused_deed(book, "Held", ("change", "a", TWO), by=2)
        book.leave(2)
        self.refused_deed(book, "Held", ("change", "a", TWO), by=3)
        book.leave(3)
        self.refused_deed(book, "Held", ("change", "a", TWO), by=4)
        book.leave(4)
        book.change("a", TWO)
        self.assertEqual(book.house("b"), dual(spread(2, 1)))
        self.assertEqual(book.watches(), [(1, "x", "+++", 0)])

    def test_names_hold_ahead_of_watches(self):
        book = Book()
        book.keep("a", THREE)
        book.watch("a", "+++")
        book.keep("b", ("struck", "a", 2))
        self.refused_deed(book, "Held", ("change", "a", TWO), by="b")

    def test_which_refusal_goes_first(self):
        book = some_book()
        self.refused_deed(book, "NoName", ("change", "x", ()), name="x")
        self.refused_deed(book, "NoName", ("change", "A", ("dual", "a")), name="A")
        self.refused_deed(book, "NoName", ("change", "", THREE), name="")
        self.refused_deed(book, "BadRecipe", ("change", "a", ("dual", "a", "x")))
        self.refused_deed(book, "NoName", ("change", "b", ("struck", "c", 9)), name="c")
        self.refused_deed(book, "NoMake", ("change", "b", ("struck", "a", 9)), kind="BadThing")
        self.refused_deed(book, "Held", ("change", "b", ("struck", "a", 0)), by=2)


class Dropping(Refusing):

    def test_names_and_watches_use_a_house(self):
        book = some_book()
        self.refused_deed(book, "NoName", ("drop", "x"), name="x")
        self.refused_deed(book, "NoName", ("drop", ""), name="")
        self.refused_deed(book, "Used", ("drop", "a"), by="b")
        self.refused_deed(book, "Used", ("drop", "b"), by="c")
        self.refused_deed(book, "Used", ("drop", "c"), by=2)
        book.leave(2)
        book.drop("c")
        book.drop("b")
        self.refused_deed(book, "Used", ("drop", "a"), by=1)
        book.leave(1)
        book.drop("a")
        self.assertEqual((len(book), book.coming()), (0, 3))

    def test_the_first_that_uses_it(self):
        book = Book()
        book.keep("a", THREE)
        book.keep("z", TWO)
        for colours in ("+++", "---", "+*-"):
            book.watch("a", colours)
        book.keep("y", ("beside", "z", "a"))
        book.keep("b", ("dual", "a"))
        self.refused_deed(book, "Used", ("drop", "a"), by="y")
        self.refused_deed(book, "Used", ("drop", "z"), by="y")
        book.change("y", TWO)
        self.refused_deed(book, "Used", ("drop", "a"), by="b")
        book.drop("b")
        self.refused_deed(book, "Used", ("drop", "a"), by=1)
        book.leave(1)
        self.refused_deed(book, "Used", ("drop", "a"), by=2)


class Watching(Refusing):

    def test_what_watches_tell(self):
        book = Book()
        for at, recipe in enumerate(STARTS[:8]):
            name = "abcdefgh"[at]
            book.keep(name, recipe)
            house = book.house(name)
            for colours in ("+" * house.things(), "-" * house.things(), "+-*0+-*"[:house.things()]):
                if house.things():
                    number = book.watch(name, colours)
                    self.assertEqual(book.told(number), ring_or_cut(house, colours, 0))
                    book.leave(number)

    def test_refusals_in_order(self):
        book = some_book()
        for colours, mark in (("+++", 0), ("", 0), ("x", 99), ("***", 0)):
            self.refused_deed(book, "NoName", ("watch", "x", colours, mark), name="x")
        for colours, mark in (("++", 0), ("++++", 0), ("", 9), ("++x", 0), ("++\n", 9), ("x**", 1)):
            self.refused_deed(book, "BadColours", ("watch", "a", colours, mark))
        for colours, mark in (("+++", 3), ("***", -1), ("+++", 999999999), ("000", 3)):
            self.refused_deed(book, "BadThing", ("watch", "a", colours, mark))
        for colours, mark in (("*++", 0), ("+0+", 1), ("***", 2)):
            self.refused_deed(book, "BadMark", ("watch", "a", colours, mark))

    def test_a_house_of_no_things_cannot_be_watched(self):
        book = Book()
        book.keep("a", ("signs", 0, 0, (1,)))
        self.refused_deed(book, "BadThing", ("watch", "a", "", 0))
        self.refused_deed(book, "BadColours", ("watch", "a", "+", 0))

    def test_six_watches(self):
        book = some_book()
        for number in range(3, 7):
            self.assertEqual(book.watch("a", "---"), number)
        self.refused_deed(book, "Full", ("watch", "a", "+++", 0))
        self.refused_deed(book, "BadMark", ("watch", "a", "*++", 0))
        self.refused_deed(book, "NoName", ("watch", "x", "+++", 0), name="x")
        book.leave(4)
        self.assertEqual(book.watch("a", "-+-"), 7)
        self.assertEqual([row[0] for row in book.watches()], [1, 2, 3, 5, 6, 7])
        self.refused_deed(book, "Full", ("watch", "a", "+++", 0))

    def test_numbers_are_never_given_again(self):
        book = Book()
        book.keep("a", THREE)
        for number in range(1, 20):
            self.assertEqual(book.watch("a", "+++"), number)
            book.leave(number)
            self.refused_deed(book, "NoWatch", ("leave", number), number=number)
            self.assertEqual(book.coming(), number + 1)

    def test_a_number_is_given_again_where_the_giving_was_undone(self):
        book = Book()
        book.keep("a", THREE)
        self.assertEqual(book.watch("a", "+++"), 1)
        book.undo()
        self.assertEqual(book.coming(), 1)
        self.assertEqual(book.watch("a", "---"), 1)
        self.assertEqual(book.watches(), [(1, "a", "---", 0)])
        book.leave(1)
        book.undo()
        self.assertEqual((book.coming(), book.watches()), (2, [(1, "a", "---", 0)]))
        self.assertEqual(book.watch("a", "+-+"), 2)

    def test_refused_and_tried_deeds_give_no_numbers(self):
        book = Book()
        book.keep("a", THREE)
        self.assertEqual(book.trial([("watch", "a", "+++", 0), ("watch", "a", "---", 0)]), [1, 2])
        self.refused("Stopped", book.several, [("watch", "a", "+++", 0), ("drop", "x")], at=1, kind="NoName")
        self.assertEqual(book.watch("a", "+++"), 1)

    def test_leaving(self):
        book = some_book()
        for number in (0, 3, -1, 999999999):
            self.refused_deed(book, "NoWatch", ("leave", number), number=number)
        book.leave(1)
        self.refused_deed(book, "NoWatch", ("leave", 1), number=1)
        self.assertEqual(book.watches(), [(2, "c", "+0*-+-", 3)])


class Several(Refusing):

    def test_deeds_that_are_none(self):
        book = some_book()
        for deed in (
            (), ("keep",), ("keep", "x"), ("keep", "x", THREE, 0), ("change", "a"), ("change", "a", THREE, 0), ("drop",),
            ("drop", "a", "b"), ("watch", "a", "+++"), ("watch", "a"), ("watch", "a", "+++", 0, 0), ("leave",),
            ("leave", 1, 2), ("several",), ("several", (), ()), ("trial", ()), ("undo",), ("redo",), ("Keep", "x", THREE),
            ("", "x"), ("house", "a"), ("keep ", "x", THREE),
        ):
            self.refused_deed(book, "BadDeed", deed)

    def test_all_or_none(self):
        book = some_book()
        deeds = [("leave", 2), ("drop", "c"), ("keep", "d", ("leaned", "b", ())), ("watch", "d", "+---", 3)]
        before = all_told(book)
        for stop, word in (
            (("drop", "a"), "Used"), (("keep", "a", TWO), "Taken"), (("leave", 9), "NoWatch"), (("change", "a", TWO), "Held"),
            ((), "BadDeed"), (("watch", "a", "++++", 0), "BadColours"), (("keep", "e", ("dual", "x")), "NoName"),
            (("several", [("leave", 1), ("leave", 1)]), "Stopped"), (("several", ("x", "y"), ()), "BadDeed"),
        ):
            for at in range(len(deeds) + 1):
                handed = [*deeds[:at], stop, ("nothing",)]
                self.refused("Stopped", book.several, handed, at=at, kind=word)
                self.refused("Stopped", book.trial, tuple(handed), at=at, kind=word)
                self.refused("Stopped", book.do, ("several", handed), at=at, kind=word)
                self.assertEqual(all_told(book), before)
        self.assertEqual(book.several(deeds), [None, None, None, 3])
        self.assertEqual((book.past(), book.names()), ((6, 0), ["a", "b", "d"]))
        book.undo()
        self.assertEqual(told(book), told(some_book()))

    def test_none_is_a_deed_too(self):
        book = some_book()
        before = told(book)
        book.undo()
        self.assertEqual(book.past(), (4, 1))
        self.assertEqual(book.several([]), [])
        self.assertEqual(book.past(), (5, 0))
        self.assertEqual(book.do(("several", ())), [])
        self.assertEqual(book.past(), (6, 0))
        book.undo()
        book.undo()
        self.assertEqual(book.past(), (4, 2))
        self.assertNotEqual(told(book), before)

    def nested(self, depth, deed):
        for _ in range(depth):
            deed = ("several", (("several", ()), deed))
        return deed

    def test_several_within_several(self):
        for depth in range(1, 9):
            book = some_book()
            answer = book.do(self.nested(depth, ("watch", "a", "+++", 0)))
            for _ in range(depth):
                self.assertEqual((len(answer), answer[0]), (2, []))
                answer = answer[1]
            self.assertEqual(answer, 3)
            self.assertEqual(book.past(), (6, 0))
            book.undo()
            self.assertEqual(told(book), told(some_book()))

    def test_refused_within_several(self):
        for depth in range(1, 9):
            book = some_book()
            before = all_told(book)
            deed = self.nested(depth, ("drop", "a"))
            self.refused("Stopped", book.do, deed, at=1, kind="Used" if depth == 1 else "Stopped")
            self.refused("Stopped", book.trial, [("leave", 1), ("leave", 2), deed], at=2, kind="Stopped")
            self.assertEqual(all_told(book), before)

    def test_an_inner_one_that_is_refused_stops_all(self):
        book = some_book()
        before = all_told(book)
        deeds = [("leave", 1), ("several", [("leave", 2), ("several", [("drop", "c"), ("drop", "c")])]), ("drop", "b")]
        self.refused("Stopped", book.several, deeds, at=1, kind="Stopped")
        self.assertEqual(all_told(book), before)

    def test_lists_and_tuples_alike(self):
        deeds = (("leave", 1), ("several", (("watch", "a", "-+-", 2),)), ("several", ()))
        one, other = some_book(), some_book()
        self.assertEqual(one.several(deeds), [None, [3], []])
        self.assertEqual(other.several([("leave", 1), ("several", [("watch", "a", "-+-", 2)]), ("several", [])]), [None, [3], []])
        self.assertEqual(one, other)
        self.assertEqual(one.trial(deeds[1:]), other.trial(list(deeds[1:])))


class Trials(Refusing):

    def test_a_trial_leaves_all_as_it_was(self):
        book = some_book()
        book.keep("d", TWO)
        book.undo()
        before = all_told(book)
        deeds = [("leave", 2), ("drop", "c"), ("watch", "a", "---", 1), ("several", [("change", "b", TWO)])]
        for _ in range(2):
            self.assertEqual(book.trial(deeds), [None, None, 3, [None]])
            self.assertEqual(all_told(book), before)
        self.assertEqual(book.trial([]), [])
        self.refused("Stopped", book.trial, [*deeds, ("drop", "c")], at=4, kind="NoName")
        self.assertEqual(all_told(book), before)
        book.redo()
        self.assertEqual(book.names(), ["a", "b", "c", "d"])

    def test_a_trial_tells_what_several_would(self):
        chance = Random(26)
        for _ in range(150):
            book, plain = Book(), PlainBook()
            for _ in range(chance.randint(0, 12)):
                self.both(book, plain, deed_by_chance(chance, plain))
            deeds = [deed_by_chance(chance, plain) for _ in range(chance.randint(0, 3))]
            before = all_told(book)
            try:
                answer = book.trial(deeds)
            except HouseError as error:
                self.assertEqual(all_told(book), before)
                self.refused("Stopped", book.several, deeds, at=error.at, kind=error.kind)
                continue
            self.assertEqual(all_told(book), before)
            self.assertEqual(book.several(deeds), answer)

    def both(self, book, plain, deed):
        try:
            plain.do(deed)
        except Refused:
            return
        book.do(deed)


class TakingBack(Refusing):

    def test_back_and_again(self):
        book = Book()
        deeds = [("keep", "a", THREE), ("keep", "b", ("dual", "a")), ("watch", "b", "+-+", 2), ("change", "a", WEB),
                 ("several", [("leave", 1), ("drop", "b")]), ("several", ()), ("watch", "a", "-*0", 0), ("leave", 2)]
        places = [told(book)]
        for deed in deeds:
            book.do(deed)
            places.append(told(book))
        for _ in range(2):
            for at in range(len(deeds) - 1, -1, -1):
                self.assertIsNone(book.undo())
                self.assertEqual((told(book), book.past()), (places[at], (at, len(deeds) - at)))
            self.refused("Nothing", book.undo)
            for at in range(1, len(deeds) + 1):
                self.assertIsNone(book.redo())
                self.assertEqual((told(book), book.past()), (places[at], (at, len(deeds) - at)))
            self.refused("Nothing", book.redo)

    def test_nothing(self):
        book = Book()
        for _ in range(2):
            self.refused("Nothing", book.undo)
            self.refused("Nothing", book.redo)
            self.assertEqual(all_told(book), all_told(Book()))
        book.keep("a", THREE)
        self.refused("Nothing", book.redo)
        book.undo()
        self.refused("Nothing", book.undo)
        self.assertEqual(book.past(), (0, 1))

    def test_none_is_done_again_behind_another_deed(self):
        for deed in (("watch", "a", "---", 0), ("several", ()), ("change", "a", THREE)):
            book = some_book()
            book.undo()
            book.undo()
            book.do(deed)
            self.assertEqual(book.past(), (4, 0))
            self.refused("Nothing", book.redo)

    def test_refused_deeds_and_asking_let_it_be_done_again(self):
        book = some_book()
        book.undo()
        self.refused("Used", book.drop, "a", by="b")
        self.refused("BadDeed", book.do, ())
        self.refused("Stopped", book.several, [("leave", 1), ("leave", 1)], at=1, kind="NoWatch")
        all_told(book)
        book.twin().keep("x", TWO)
        self.assertEqual(book.past(), (4, 1))
        book.redo()
        self.assertEqual(told(book), told(some_book()))

    def test_many_deeds(self):
        book = Book()
        for _ in range(200):
            book.keep("a", THREE)
            book.drop("a")
        self.assertEqual(book.past(), (400, 0))
        for _ in range(400):
            book.undo()
        self.assertEqual(book.past(), (0, 400))
        for _ in range(399):
            book.redo()
        self.assertEqual(book.names(), ["a"])


class DeedsByChance(Refusing):

    def check_deed(self, book, plain, deed):
        try:
            wanted = plain.do(deed)
        except Refused as refused:
            self.refused(refused.word, book.do, deed, **refused.fields)
            return refused.word
        self.assertEqual(book.do(deed), wanted)
        return deed[0]

    def check_step(self, book, plain, step):
        """Takes a deed back or does it again, where there is one."""
        try:
            getattr(plain, step)()
        except Refused:
            self.refused("Nothing", getattr(book, step))
            return "Nothing"
        getattr(book, step)()
        return step

    def check_same(self, book, plain):
        self.assertEqual(book.names(), plain.names())
        self.assertEqual([(name, book.recipe(name)) for name in book.names()], plain.kept)
        self.assertEqual({name: book.house(name) for name in book.names()}, plain.houses())
        self.assertEqual(book.watches(), [(number, *plain.watching[number]) for number in sorted(plain.watching)])
        for number, name, colours, mark in book.watches():
            self.assertEqual(book.told(number), ring_or_cut(book.house(name), colours, mark))
        self.assertEqual((book.coming(), len(book)), (plain.next, len(plain.kept)))
        self.assertEqual(book.past(), (len(plain.ahead), len(plain.behind)))
        self.assertEqual(repr(book), f"Book({len(plain.kept)} houses, {len(plain.watching)} watches)")

    def test_all_that_is_told_and_refused(self):
        chance = Random(25)
        met = set()
        for _ in range(120):
            book, plain = Book(), PlainBook()
            for _ in range(60):
                step = chance.choice(("undo", "redo")) if chance.random() < 0.2 else None
                if step:
                    met.add(self.check_step(book, plain, step))
                else:
                    met.add(self.check_deed(book, plain, deed_by_chance(chance, plain)))
                self.check_same(book, plain)
        self.assertLessEqual({
            "keep", "change", "drop", "watch", "leave", "several", "undo", "redo", "Nothing", "BadDeed", "BadName", "Taken",
            "BadRecipe", "NoName", "NoMake", "Held", "Used", "BadMark", "BadColours", "NoWatch", "Stopped", "Full",
        }, met)

    def test_a_book_made_anew_of_the_same_deeds(self):
        chance = Random(99)
        for _ in range(40):
            book, plain, done, undone = Book(), PlainBook(), [], []
            for _ in range(40):
                if chance.random() < 0.25 and (done if (step := chance.choice(("undo", "redo"))) == "undo" else undone):
                    getattr(book, step)()
                    getattr(plain, step)()
                    (undone if step == "undo" else done).append((done if step == "undo" else undone).pop())
                    continue
                deed = deed_by_chance(chance, plain)
                if self.check_deed(book, plain, deed) == (deed[0] if deed else None):
                    done.append(deed)
                    undone = []
            other = Book()
            for deed in done:
                other.do(deed)
            self.assertEqual(told(book), told(other))
            self.assertEqual(book, other)
            self.assertEqual(book.past(), (len(done), len(undone)))


class Twins(Refusing):

    def test_a_twin_has_all_and_goes_its_own_way(self):
        one = some_book()
        one.keep("d", TWO)
        one.undo()
        other = one.twin()
        self.assertIs(type(other), Book)
        self.assertEqual(all_told(other), all_told(one))
        self.assertEqual(other, one)
        before = all_told(one)
        other.redo()
        other.keep("e", WEB)
        other.leave(1)
        self.assertEqual(all_told(one), before)
        there = all_told(other)
        one.undo()
        one.undo()
        one.watch("a", "-*-")
        self.assertEqual(all_told(other), there)
        for _ in range(8):
            other.undo()
        self.assertEqual(all_told(other)[:-1], told(Book()))
        self.assertEqual(one.coming(), 2)

    def test_what_is_done_again_on_one_alone(self):
        one = some_book()
        one.undo()
        other = one.twin()
        one.redo()
        self.assertEqual((one.past(), other.past()), ((5, 0), (4, 1)))
        other.several([])
        self.refused("Nothing", other.redo)
        one.undo()
        one.redo()
        self.assertEqual(told(one), told(some_book()))


class Equality(unittest.TestCase):

    def test_equal_books(self):
        self.assertTrue(Book() == Book())
        self.assertTrue(some_book() == some_book())
        self.assertFalse(some_book() != some_book())
        one, other = some_book(), some_book()
        other.several([("keep", "d", TWO), ("drop", "d")])
        self.assertEqual(one, other)
        other.undo()
        one.change("a", THREE)
        self.assertEqual(one, other)

    def test_alike_in_all_but_one_thing(self):
        def book(names="ab", recipe=TWO, name="a", colours="++", mark=0, more=0):
            made = Book()
            for kept in names:
                made.keep(kept, recipe if kept == "a" else TWO)
            made.watch(name, colours, mark=mark)
            for _ in range(more):
                made.leave(made.watch(name, colours))
            return made

        plain = book()
        self.assertEqual(plain, book())
        for other in (
            book(names="ba"), book(names="abc"), book(names="a"), book(recipe=("signs", 2, 1, (-1, -1))),
            book(recipe=("columns", ((1,), (1,)))), book(name="b"), book(colours="+-"), book(mark=1), book(more=1),
        ):
            self.assertFalse(plain == other)
            self.assertTrue(plain != other)
        # The houses are one and the same, the recipes aren't.
        self.assertEqual(book(recipe=("signs", 2, 1, (-1, -1))).house("a"), plain.house("a"))

    def test_to_nothing_else(self):
        for other in (None, 0, "", (), [], {}, "Book(0 houses, 0 watches)", House(0, 0, [1])):
            self.assertFalse(Book() == other)
            self.assertTrue(Book() != other)

    def test_names_dropped_and_kept_again_come_in_another_order(self):
        one, other = Book(), Book()
        for book in (one, other):
            book.keep("a", TWO)
            book.keep("b", TWO)
        other.drop("a")
        other.keep("a", TWO)
        self.assertNotEqual(one, other)
        one.drop("a")
        one.keep("a", TWO)
        self.assertEqual(one, other)


class NothingChanges(unittest.TestCase):

    def test_recipes_with_lists_within_them(self):
        steps, columns, arrows = [[0, 1], [1, -1]], [[1, 0], [0, 1], [1, 1]], [[0, 1], [1, 2]]
        signs, things, order = [1, 1, 1], [0, 2], [2, 0, 1]
        handed = [
            ("c", ("columns", columns)), ("s", ("signs", 3, 2, signs)), ("w", ("web", 3, arrows)),
            ("t", ("turned", "s", things)), ("m", ("moved", "s", order)), ("l", ("leaned", "c", steps)),
        ]
        kept = frozen(handed)
        book, deeds = Book(), [("keep", *pair) for pair in handed]
        book.several(deeds)
        self.assertEqual(frozen(handed), kept)
        before = told(book)
        self.assertEqual([(name, book.recipe(name)) for name in book.names()], list(kept))
        steps[0][1] = -1
        for changed in (steps, columns, arrows, signs, things, order, deeds):
            changed.clear()
        self.assertEqual(told(book), before)
        book.change("s", ("signs", 3, 2, (1, 1, -1)))
        self.assertEqual(book.house("m").things(), 3)
        book.undo()
        book.redo()
        book.undo()
        self.assertEqual(told(book), before)

    def test_books_of_lists_and_tuples_are_equal(self):
        one, other = Book(), Book()
        one.keep("a", ("columns", ((1, 0), (0, 1))))
        other.keep("a", ("columns", [[1, 0], [0, 1]]))
        self.assertEqual(one, other)

    def test_told_lists_may_be_changed(self):
        book = some_book()
        before = all_told(book)
        book.names().clear()
        book.watches().clear()
        book.names().append("x")
        answer = book.trial([("several", [("leave", 1)])])
        answer[0].append(9)
        answer.clear()
        self.assertEqual(all_told(book), before)
        answer = book.several([("several", [("leave", 1)])])
        answer[0].append(9)
        book.undo()
        self.assertEqual(told(book), before[:-1])

    def test_asking_changes_nothing(self):
        book = some_book()
        before = all_told(book)
        for _ in range(3):
            self.assertEqual(all_told(book), before)
            self.assertRaises(HouseError, book.house, "x")
            self.assertRaises(HouseError, book.told, 9)
        self.assertEqual(book, some_book())


class Stock(unittest.TestCase):

    def test_the_recipes_that_tests_take_by_chance(self):
        for recipe in STARTS:
            book = Book()
            book.keep("a", recipe)
            self.assertEqual(book.recipe("a"), recipe)
        for recipe in BAD_STARTS:
            self.assertRaises((CleaveError, HouseError), Book().keep, "a", recipe)
        self.assertEqual(len(NAMES), 7)


if __name__ == "__main__":
    unittest.main()
