"""Point 27: pages, and the row at which a text is none; points 1 and 2 where they speak of these."""
import re
import unittest
from random import Random

from plain_books import STARTS, PlainBook, Refused, deed_by_chance
from signcleave.book import Book
from signcleave.errors import BadPage, CleaveError, HouseError
from signcleave.pages import page, read_page

NUMBER = "(?:0|-?[1-9][0-9]{0,8})"
COUNT = "[1-9][0-9]{0,8}"
NAME = "[a-z]{1,8}"
RECIPES = {
    "signs": f"signs ({NUMBER}) ({NUMBER}) ([-0+]+)",
    "columns": rf"columns((?: (?:\.|{NUMBER}(?:,{NUMBER})*))+)",
    "web": f"web ({NUMBER})((?: {NUMBER}>{NUMBER})*)",
    "dual": f"dual ({NAME})",
    "struck": f"struck ({NAME}) ({NUMBER})",
    "drawn": f"drawn ({NAME}) ({NUMBER})",
    "turned": f"turned ({NAME})((?: {NUMBER})*)",
    "moved": f"moved ({NAME})((?: {NUMBER})*)",
    "beside": f"beside ({NAME}) ({NAME})",
    "leaned": f"leaned ({NAME})((?: [-+]{NUMBER})*)",
}
THREE = ("signs", 3, 2, (1, 1, 1))


def numbers(text, mark=" "):
    return tuple(int(word) for word in text.split(mark) if word != "")


def plain_recipe(text):
    """The recipe that a text writes, or None."""
    for word, wanted in RECIPES.items():
        found = re.fullmatch(wanted, text)
        if found is None:
            continue
        parts = found.groups()
        if word == "signs":
            return (word, int(parts[0]), int(parts[1]), tuple("-0+".index(mark) - 1 for mark in parts[2]))
        if word == "columns":
            return (word, tuple(() if one == "." else numbers(one, ",") for one in parts[0].split()))
        if word == "web":
            return (word, int(parts[0]), tuple(numbers(one, ">") for one in parts[1].split()))
        if word in ("dual", "beside"):
            return (word, *parts)
        if word in ("struck", "drawn"):
            return (word, parts[0], int(parts[1]))
        if word in ("turned", "moved"):
            return (word, parts[0], numbers(parts[1]))
        return (word, parts[0], tuple((int(one[1:]), 1 if one[0] == "+" else -1) for one in parts[1].split()))
    return None


def plain_put(plain, row, coming):
    """Whether a row behind the first could be put into a PlainBook."""
    house = re.fullmatch(f"house ({NAME}) (.*)", row)
    watch = re.fullmatch(rf"watch ({COUNT}) ({NAME}) ([-+*0]+) ({NUMBER})", row)
    try:
        if house and not plain.watching and plain_recipe(house[2]):
            plain.keep(house[1], plain_recipe(house[2]))
            return True
        if watch and max(plain.watching, default=0) < int(watch[1]) < coming:
            plain.next = int(watch[1])
            plain.watch(watch[2], watch[3], int(watch[4]))
            return True
    except Refused:
        pass
    return False


def plain_read(text):
    """The PlainBook that a text tells, or the number of the first row that is wrong."""
    *rows, rest = text.split("\n")
    if not rows or not re.fullmatch(f"next {COUNT}", rows[0]):
        return 0
    plain, coming = PlainBook(), int(rows[0][5:])
    for at, row in enumerate(rows[1:], start=1):
        if not plain_put(plain, row, coming):
            return at
    plain.next = coming
    return len(rows) if rest else plain


def full_book():
    """A book with each of the ten recipes but two, and watches of which some are gone."""
    book = Book()
    book.keep("s", ("signs", 3, 2, (-1, 0, 1)))
    book.keep("cols", ("columns", ((1, 0), (0, -1), (12, 3))))
    book.keep("w", ("web", 3, ((0, 1), (1, 2), (0, 2))))
    book.keep("d", ("dual", "w"))
    book.keep("t", ("turned", "cols", (0, 2, 2)))
    book.keep("m", ("moved", "t", (2, 0, 1)))
    book.keep("b", ("beside", "m", "d"))
    book.keep("l", ("leaned", "b", ((5, -1), (0, 1))))
    book.leave(book.watch("w", "+++"))
    book.watch("w", "*+-", mark=2)
    book.watch("l", "0-++*0+", mark=1)
    book.leave(book.watch("w", "+++"))
    return book


def other_book():
    book = Book()
    book.keep("a", THREE)
    book.keep("x", ("struck", "a", 2))
    book.keep("y", ("drawn", "a", 0))
    book.keep("none", ("columns", ((), ())))
    book.keep("longname", ("web", 1, ()))
    book.watch("a", "---")
    return book


BOOKS = {
    "full": full_book(), "other": other_book(), "empty": Book(),
}
FULL = """next 5
house s signs 3 2 -0+
house cols columns 1,0 0,-1 12,3
house w web 3 0>1 1>2 0>2
house d dual w
house t turned cols 0 2 2
house m moved t 2 0 1
house b beside m d
house l leaned b -5 +0
watch 2 w *+- 2
watch 3 l 0-++*0+ 1
"""
OTHER = """next 2
house a signs 3 2 +++
house x struck a 2
house y drawn a 0
house none columns . .
house longname web 1
watch 1 a --- 0
"""


class Pages(unittest.TestCase):

    def test_by_hand(self):
        for book, text in ((Book(), "next 1\n"), (full_book(), FULL), (other_book(), OTHER)):
            self.assertEqual(page(book), text)
            self.assertEqual(read_page(text), book)
            self.assertIs(type(page(book)), str)

    def test_each_recipe(self):
        for recipe, text in (
            (("signs", 0, 0, (1,)), "signs 0 0 +"), (("signs", 3, 1, (0, -1, 1)), "signs 3 1 0-+"),
            (("columns", ((-999999999,), (999999999,), (0,))), "columns -999999999 999999999 0"),
            (("columns", ((),)), "columns ."), (("columns", ((1, -1), (2, 0))), "columns 1,-1 2,0"), (("web", 8, ((7, 7), (0, 7))), "web 8 7>7 0>7"),
            (("web", 2, ()), "web 2"), (("dual", "a"), "dual a"), (("struck", "a", 0), "struck a 0"),
            (("drawn", "a", 2), "drawn a 2"), (("turned", "a", ()), "turned a"), (("turned", "a", (2, 0, 0)), "turned a 2 0 0"),
            (("moved", "a", (2, 0, 1)), "moved a 2 0 1"), (("moved", "e", ()), "moved e"), (("beside", "a", "a"), "beside a a"),
            (("leaned", "a", ()), "leaned a"), (("leaned", "a", ((0, -1), (2, 1))), "leaned a -0 +2"),
        ):
            book = Book()
            book.keep("a", THREE)
            book.keep("e", ("web", 1, ()))
            book.keep("x", recipe)
            self.assertEqual(page(book), f"next 1\nhouse a signs 3 2 +++\nhouse e web 1\nhouse x {text}\n")
            self.assertEqual(read_page(page(book)).recipe("x"), recipe)

    def test_signs_are_written_as_they_were_told(self):
        book = Book()
        book.keep("a", ("signs", 2, 1, (-1, -1)))
        self.assertEqual(page(book), "next 1\nhouse a signs 2 1 --\n")
        self.assertEqual(read_page(page(book)).recipe("a"), ("signs", 2, 1, (-1, -1)))

    def test_what_is_read_can_be_gone_on_with(self):
        book = read_page(FULL)
        self.assertIs(type(book), Book)
        self.assertEqual((book.past(), book.coming()), ((0, 0), 5))
        self.assertRaises(HouseError, book.undo)
        self.assertRaises(HouseError, book.redo)
        self.assertEqual(book.watch("s", "0++", mark=1), 5)
        self.assertEqual(book.told(3), full_book().told(3))
        self.assertEqual({name: book.house(name) for name in book.names()},
                         {name: full_book().house(name) for name in full_book().names()})
        book.undo()
        self.assertEqual(page(book), FULL)

    def test_books_by_chance_both_ways(self):
        chance = Random(27)
        for _ in range(250):
            book, plain = Book(), PlainBook()
            for _ in range(chance.randint(0, 30)):
                deed = deed_by_chance(chance, plain)
                try:
                    plain.do(deed)
                except Refused:
                    continue
                book.do(deed)
            text = page(book)
            self.assertEqual(page(book), text)
            again = read_page(text)
            self.assertEqual(again, book)
            self.assertEqual((page(again), again.past()), (text, (0, 0)))
            self.assertEqual(plain_read(text).state(), plain.state())

    def test_arguments_by_name(self):
        self.assertEqual(read_page(text=page(book=full_book())), full_book())

    def test_a_page_tells_nothing_of_the_past(self):
        one, other = full_book(), full_book()
        other.several([])
        self.assertEqual(page(one), page(other))


class WrongPages(unittest.TestCase):

    def refused(self, text, row):
        with self.subTest(text=text), self.assertRaises(BadPage) as caught:
            read_page(text)
        self.assertEqual((caught.exception.word, caught.exception.row), ("BadPage", row))
        self.assertIsInstance(caught.exception, CleaveError)

    def test_by_hand(self):
        a = "house a signs 3 2 +++\n"
        for text, row in (
            ("", 0), ("\n", 0), ("x", 0), ("next 1", 0), ("next", 0), ("next \n", 0), ("next 0\n", 0), ("next 01\n", 0),
            ("next -1\n", 0), ("next +1\n", 0), ("next 1000000000\n", 0), ("next 1 \n", 0), (" next 1\n", 0), ("next  1\n", 0),
            ("Next 1\n", 0), ("next 1 1\n", 0), ("next x\n", 0), (a, 0), ("next 1\n\n", 1), ("next 1\nnext 1\n", 1),
            ("next 1\nhouse\n", 1), ("next 1\nhouse a\n", 1), ("next 1\nhouse a \n", 1), ("next 1\nhouse  web 1\n", 1),
            ("next 1\nhouse a web 1", 1), ("next 1\nhouse a web 1 \n", 1), ("next 1\nhouse a web 1\n\n", 2),
            ("next 1\nhouse a web 1\n ", 2), ("next 1\nhouse a web 1\nx", 2), ("next 1\nhouse A web 1\n", 1),
            ("next 1\nhouse abcdefghi web 1\n", 1), ("next 1\nhouse a dual a\n", 1), ("next 1\nhouse a dual b\nhouse b web 1\n", 1),
            ("next 1\n" + a + a, 2), ("next 1\n" + a + "house b struck a 3\n", 2), ("next 1\n" + a + "house b struck a 00\n", 2),
            ("next 1\n" + a + "house b struck a +0\n", 2), ("next 1\n" + a + "house b struck a -0\n", 2),
            ("next 1\n" + a + "house b struck a\n", 2), ("next 1\n" + a + "house b struck a 0 1\n", 2),
            ("next 1\n" + a + "house b beside a\n", 2), ("next 1\n" + a + "house b moved a 0 1\n", 2),
            ("next 1\n" + a + "house b leaned a 0\n", 2), ("next 1\n" + a + "house b leaned a +\n", 2),
            ("next 1\n" + a + "house b leaned a +0 -0\n", 2), ("next 1\n" + a + "house b leaned a +00\n", 2),
            ("next 1\n" + a + "house b leaned a *0\n", 2), ("next 1\n" + a + "house b turned a 0  1\n", 2),
            ("next 1\n" + a + "house b grown a\n", 2), ("next 1\n" + a + "house b \n", 2), ("next 1\n" + a + "house b\n", 2),
            ("next 1\nhouse a signs 3 2\n", 1), ("next 1\nhouse a signs 3 2 \n", 1), ("next 1\nhouse a signs 3 2 ++x\n", 1),
            ("next 1\nhouse a signs 3 2 ++ +\n", 1), ("next 1\nhouse a signs 3 2 000\n", 1), ("next 1\nhouse a signs 3 2 ++\n", 1),
            ("next 1\nhouse a signs 03 2 +++\n", 1), ("next 1\nhouse a columns\n", 1), ("next 1\nhouse a columns \n", 1),
            ("next 1\nhouse a columns 1,\n", 1), ("next 1\nhouse a columns ,\n", 1), ("next 1\nhouse a columns 1;2 2;1\n", 1),
            ("next 1\nhouse a columns 1,.\n", 1), ("next 1\nhouse a columns .,.\n", 1), ("next 1\nhouse a columns ..\n", 1),
            ("next 1\nhouse a columns 1000000000\n", 1), ("next 1\nhouse a columns -1000000000\n", 1),
            ("next 1\nhouse a columns 01\n", 1), ("next 1\nhouse a columns -0 1\n", 1), ("next 1\nhouse a columns 0\n", 1),
            ("next 1\nhouse a columns --1\n", 1), ("next 1\nhouse a columns -\n", 1), ("next 1\nhouse a web\n", 1),
            ("next 1\nhouse a web 0\n", 1), ("next 1\nhouse a web 2 0>1>0\n", 1), ("next 1\nhouse a web 2 0>2\n", 1),
            ("next 1\nhouse a web 2 0>\n", 1), ("next 1\nhouse a web 2 >\n", 1), ("next 1\nhouse a web 2 01\n", 1),
            ("next 1\nhouse a web 2 0>01\n", 1), ("next 1\nhouse a web 2 0<1\n", 1),
        ):
            self.refused(text, row)
            self.assertEqual(plain_read(text), row)

    def test_watches(self):
        head = "house a signs 3 2 +++\n"
        for first, rows, row in (
            (1, "watch 1 a +++ 0\n", 2), (2, "watch 2 a +++ 0\n", 2), (2, "watch 3 a +++ 0\n", 2), (2, "watch 0 a +++ 0\n", 2),
            (9, "watch 01 a +++ 0\n", 2), (9, "watch -1 a +++ 0\n", 2), (9, "watch 1 a +++\n", 2), (9, "watch 1 a +++ 0 \n", 2),
            (9, "watch 1 a +++ 3\n", 2), (9, "watch 1 a ++ 0\n", 2), (9, "watch 1 a *++ 0\n", 2), (9, "watch 1 b +++ 0\n", 2),
            (9, "watch 1 a +++ 00\n", 2), (9, "watch 1 a +++ -0\n", 2), (9, "watch 1 a +++ -1\n", 2), (9, "watch 1 a ++x 0\n", 2),
            (9, "watch 1 a +++ 0", 2), (9, "watch  1 a +++ 0\n", 2), (9, "watch 1 a  0\n", 2), (9, "Watch 1 a +++ 0\n", 2),
            (9, "watch 1 a +++ 0\nwatch 1 a +++ 0\n", 3), (9, "watch 2 a +++ 0\nwatch 1 a +++ 0\n", 3),
            (9, "watch 1 a +++ 0\nhouse b dual a\n", 3), (9, "watch 1 a +++ 0\nnext 9\n", 3), (9, "watch 1 a +++ 0\n\n", 3),
            (9, "watch 1 a +++ 0\nwatch 9 a +++ 0\n", 3), (9, "watch 8 a +++ 0\nwatch 10 a +++ 0\n", 3),
            (999999999, "watch 999999999 a +++ 0\n", 2), (999999999, "watch 1000000000 a +++ 0\n", 2),
            (9, "".join([f"watch {number} a +++ 0\n" for number in range(1, 8)]), 8),
        ):
            text = f"next {first}\n{head}{rows}"
            self.refused(text, row)
            self.assertEqual(plain_read(text), row)

    def test_texts_that_are_pages(self):
        head = "house a signs 3 2 +++\n"
        for text in (
            "next 999999999\n", f"next 999999999\n{head}watch 999999998 a +++ 0\n", f"next 8\n{head}watch 3 a +++ 2\n",
            "next 9\n" + head + "".join([f"watch {number} a +++ 0\n" for number in range(2, 8)]),
            "next 1\n" + "".join([f"house {name} web 2 0>1 1>1\n" for name in "hgfedcba"]),
            "next 1\nhouse a columns 999999999 -999999999 0 0 0 0 0\n", "next 1\nhouse a web 8\n",
        ):
            book = read_page(text)
            self.assertEqual((page(book), book.past()), (text, (0, 0)))
            self.assertEqual(book.coming(), int(text.split("\n")[0][5:]))

    def test_too_many_houses(self):
        rows = [f"house {name} web 2 0>1\n" for name in "abcdefghi"]
        self.refused("next 1\n" + "".join(rows), 9)
        self.assertEqual(len(read_page("next 1\n" + "".join(rows[:8]))), 8)

    def test_rows_cut_off_doubled_and_in_another_order(self):
        for text in (FULL, OTHER):
            rows = [row + "\n" for row in text.split("\n")[:-1]]
            for at in range(len(rows)):
                self.check("".join(rows[:at]))
                self.check("".join(rows[:at]) + rows[at][:-1])
                self.check("".join([*rows[:at], *rows[at + 1:]]))
                self.check("".join([*rows[:at + 1], *rows[at:]]))
                for other in range(at):
                    moved = list(rows)
                    moved[at], moved[other] = moved[other], moved[at]
                    self.check("".join(moved))

    def check(self, text):
        """Reads a text; what comes must be what the plain reading tells."""
        wanted = plain_read(text)
        if type(wanted) is int:
            self.refused(text, wanted)
            return False
        book = read_page(text)
        self.assertEqual(page(book), text)
        self.assertEqual([(name, book.recipe(name)) for name in book.names()], wanted.kept)
        self.assertEqual((book.watches(), book.coming(), book.past()),
                         ([(number, *watch) for number, watch in wanted.watching.items()], wanted.next, (0, 0)))
        return True

    def test_each_change_of_one_sign(self):
        signs = " 0123579-+*>,.abcdlmstwx\n"
        met = []
        for text in (FULL, OTHER, "next 1\n"):
            for at in range(len(text) + 1):
                changed = {text[:at] + text[at + 1:], *[text[:at] + sign + text[at:] for sign in signs]}
                changed |= {text[:at] + sign + text[at + 1:] for sign in signs}
                met += [self.check(other) for other in sorted(changed)]
        self.assertGreater(met.count(True), 200)
        self.assertGreater(met.count(False), 10000)

    def test_all_signs_at_some_places(self):
        chance = Random(3)
        signs = [chr(code) for code in range(32, 127) if code != 37]
        for text in (FULL, OTHER):
            for at in chance.sample(range(len(text)), 25):
                for sign in signs:
                    self.check(text[:at] + sign + text[at + 1:])
                    self.check(text[:at] + sign + text[at:])

    def test_changes_of_words_by_chance(self):
        chance = Random(12)
        words = ["0", "1", "2", "3", "-1", "a", "w", "cols", "+", "+++", "0>1", "1,0", ".", "", "house", "watch", "dual", "web",
                 "+0", "-2", "10", "next", "b", "t"]
        for _ in range(3000):
            rows = [row.split(" ") for row in (FULL, OTHER)[chance.randint(0, 1)].split("\n")[:-1]]
            for _ in range(chance.randint(1, 2)):
                row = chance.choice(rows)
                at = chance.randint(0, len(row))
                row[at:at + chance.randint(0, 1)] = chance.choices(words, k=chance.randint(0, 1))
            self.check("".join([" ".join(row) + "\n" for row in rows]))

    def test_long_texts(self):
        self.refused("x" * 9000, 0)
        self.refused("\n" * 9000, 0)
        self.refused("next 1\n" * 1000, 1)
        self.refused("next 1\nhouse a columns " + "1 " * 4000, 1)
        self.refused("next 1\nhouse a web 1" + " 0>0" * 2000 + "\n", 1)


class NothingChanges(unittest.TestCase):

    def test_asking_for_a_page_changes_nothing(self):
        for book in BOOKS.values():
            before = (book.past(), book.names(), book.watches(), book.coming())
            self.assertEqual(page(book), page(book))
            self.assertEqual((book.past(), book.names(), book.watches(), book.coming()), before)

    def test_two_books_of_one_page_go_their_own_ways(self):
        one, other = read_page(FULL), read_page(FULL)
        one.leave(2)
        self.assertEqual(page(other), FULL)
        self.assertNotEqual(one, other)

    def test_the_recipes_that_tests_take_by_chance(self):
        for recipe in STARTS:
            book = Book()
            book.keep("a", recipe)
            self.assertEqual(read_page(page(book)), book)


if __name__ == "__main__":
    unittest.main()
