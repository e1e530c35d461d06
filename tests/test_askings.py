"""Point 21: askings, how they are written, and where a text that is none is wrong."""
import unittest
from itertools import permutations, product
from random import Random

from signcleave.askings import asking_text, read_asking
from signcleave.errors import BadAsking, BadText, CleaveError

PLACES = ("", "-", "=", None)


def each_asking():
    """(asking, text) of all askings there are."""
    for word in ("greatest", "least"):
        for aim, bound in permutations(range(7), 2):
            others = [thing for thing in range(7) if thing not in (aim, bound)]
            for picked in product(PLACES, repeat=5):
                pairs = list(zip(others, picked))
                groups = [tuple(thing for thing, place in pairs if place == mark) for mark in ("", "-", "=")]
                words = [place + str(thing) for thing, place in pairs if place is not None]
                text = f"{word} {aim} by {bound}" + (" where " + " ".join(words) if words else "")
                yield (word, aim, bound, *groups), text


ALL = list(each_asking())
TEXTS = {text for _, text in ALL}
HEADS = {tuple(text.split(" ")[:size]) for text in TEXTS for size in range(1, len(text.split(" ")) + 1)}


def wrong_place(text):
    """The place of the first wrong word, or as many as there are words: told by all texts that are askings."""
    words = text.split(" ")
    for at in range(len(words)):
        if tuple(words[:at + 1]) not in HEADS:
            return at
    return len(words)


class Reading(unittest.TestCase):

    def test_a_few_by_hand(self):
        for text, asking in (
            ("greatest 3 by 0 where 1 -2 =4", ("greatest", 3, 0, (1,), (2,), (4,))),
            ("least 0 by 6", ("least", 0, 6, (), (), ())),
            ("greatest 6 by 0 where 1", ("greatest", 6, 0, (1,), (), ())),
            ("greatest 6 by 0 where -1", ("greatest", 6, 0, (), (1,), ())),
            ("least 6 by 0 where =1", ("least", 6, 0, (), (), (1,))),
            ("least 3 by 2 where 0 1 4 5 6", ("least", 3, 2, (0, 1, 4, 5, 6), (), ())),
            ("least 3 by 2 where =0 -1 4 =5 -6", ("least", 3, 2, (4,), (1, 6), (0, 5))),
        ):
            self.assertEqual(read_asking(text), asking)
            self.assertEqual(asking_text(asking), text)

    def test_all_askings_both_ways(self):
        self.assertEqual(len(TEXTS), 2 * 7 * 6 * 4 ** 5)
        for asking, text in ALL:
            self.assertEqual(read_asking(text), asking)
            self.assertEqual(asking_text(asking), text)

    def test_kinds_of_what_is_told(self):
        asking = read_asking("greatest 3 by 0 where 1 -2 =4")
        self.assertEqual([type(part) for part in asking], [str, int, int, tuple, tuple, tuple])
        self.assertIs(type(asking), tuple)
        self.assertIs(type(asking_text(asking)), str)

    def test_arguments_by_name(self):
        self.assertEqual(asking_text(asking=read_asking(text="least 0 by 6")), "least 0 by 6")

    def test_lists_and_tuples_alike(self):
        handed = ["greatest", 3, 0, [1], [2, 5], [4]]
        self.assertEqual(asking_text(handed), "greatest 3 by 0 where 1 -2 =4 -5")
        self.assertEqual(asking_text(tuple(handed)), "greatest 3 by 0 where 1 -2 =4 -5")
        self.assertEqual(handed, ["greatest", 3, 0, [1], [2, 5], [4]])


class WrongTexts(unittest.TestCase):

    def refused(self, text, at):
        with self.subTest(text=text), self.assertRaises(BadText) as caught:
            read_asking(text)
        self.assertEqual((caught.exception.word, caught.exception.at), ("BadText", at))
        self.assertIsInstance(caught.exception, CleaveError)

    def test_a_few_by_hand(self):
        for text, at in (
            ("", 0), (" ", 0), ("\n", 0), ("most 3 by 0", 0), ("Greatest 3 by 0", 0), (" greatest 3 by 0", 0),
            ("greatest", 1), ("greatest ", 1), ("greatest 7 by 0", 1), ("greatest x by 0", 1), ("greatest 03 by 0", 1),
            ("greatest  3 by 0", 1), ("greatest +3 by 0", 1), ("greatest -3 by 0", 1), ("greatest 12 by 0", 1),
            ("greatest 3", 2), ("greatest 3 ", 2), ("greatest 3 of 0", 2), ("greatest 3 By 0", 2), ("greatest 3  by 0", 2),
            ("greatest 3 by", 3), ("greatest 3 by ", 3), ("greatest 3 by 3", 3), ("greatest 3 by 7", 3),
            ("greatest 3 by 00", 3), ("greatest 3 by 0\n", 3), ("greatest 3 by where 1", 3),
            ("greatest 3 by 0 ", 4), ("greatest 3 by 0 1", 4), ("greatest 3 by 0 Where 1", 4),
            ("greatest 3 by 0  where 1", 4),
            ("greatest 3 by 0 where", 5), ("greatest 3 by 0 where ", 5), ("greatest 3 by 0 where 3", 5),
            ("greatest 3 by 0 where -0", 5), ("greatest 3 by 0 where =3", 5), ("greatest 3 by 0 where 7", 5),
            ("greatest 3 by 0 where -", 5), ("greatest 3 by 0 where =", 5), ("greatest 3 by 0 where +1", 5),
            ("greatest 3 by 0 where --1", 5), ("greatest 3 by 0 where 01", 5), ("greatest 3 by 0 where 12", 5),
            ("greatest 3 by 0 where 1 ", 6), ("greatest 3 by 0 where 1  2", 6), ("greatest 3 by 0 where 1 1", 6),
            ("greatest 3 by 0 where 1 -1", 6), ("greatest 3 by 0 where 2 1", 6), ("greatest 3 by 0 where 4 =2", 6),
            ("greatest 3 by 0 where 1 3", 6), ("greatest 3 by 0 where 1 where", 6), ("greatest 3 by 0 where 1\n", 5),
            ("greatest 3 by 0 where 1 -2 =4 5 6 6", 10), ("greatest 3 by 0 where 1 -2 =4 5 6 ", 10),
            ("greatest 3 by 0 where 1 -2 =4 5 5 9", 9), ("greatest 3 by 0where 1", 3), ("greatest3 by 0", 0),
            ("least 7 by 7", 1), ("least 3 to 3 if 3", 2), ("x 3 by 0 where 1", 0),
        ):
            self.refused(text, at)
            self.assertEqual(wrong_place(text), at, text)

    def test_each_change_of_one_sign(self):
        signs = [chr(code) for code in range(32, 127) if chr(code) != chr(37)] + ["\n"]
        for text in ("least 3 by 0", "greatest 3 by 0 where 1 -2 =4", "least 6 by 4 where =0 -2 3 5"):
            for at in range(len(text) + 1):
                changed = {text[:at] + text[at + 1:], *[text[:at] + sign + text[at:] for sign in signs]}
                changed |= {text[:at] + sign + text[at + 1:] for sign in signs}
                for other in changed:
                    if other in TEXTS:
                        self.assertEqual(asking_text(read_asking(other)), other)
                    else:
                        self.refused(other, wrong_place(other))

    def test_each_head_of_words_and_a_wrong_word_at_each_place(self):
        words = "greatest 3 by 0 where 1 -2 =4 5 6".split(" ")
        texts = [" ".join(words[:size]) for size in range(len(words) + 1)]
        for size in range(len(words) + 1):
            for other in ("", "x", "where", "by", "least", "3", "0", "=9", "-", "07", "1.", "-=5", "=4"):
                texts.append(" ".join([*words[:size], other, *words[size + 1:]]))
                if other in ("", "x", "=9", "-", "07", "1.", "-=5"):
                    self.assertEqual(wrong_place(texts[-1]), size)
        for text in texts:
            if text in TEXTS:
                self.assertEqual(asking_text(read_asking(text)), text)
            else:
                self.refused(text, wrong_place(text))

    def test_words_by_chance(self):
        chance = Random(5)
        stock = ["least", "greatest", "by", "where", "", *"0123456", "-1", "-4", "=2", "=5", "7"]
        met = set()
        for _ in range(20000):
            head = chance.choice(ALL)[1].split(" ")[:chance.randint(0, 9)]
            text = " ".join([*head, *[chance.choice(stock) for _ in range(chance.randint(0, 3))]])
            if text in TEXTS:
                self.assertEqual(asking_text(read_asking(text)), text)
            else:
                self.refused(text, wrong_place(text))
                met.add(wrong_place(text))
        self.assertEqual(met, set(range(11)))

    def test_long_texts(self):
        self.refused("greatest " * 33, 1)
        self.refused("x" * 300, 0)
        self.refused(" " * 300, 0)
        self.refused("least 3 by 0 where " + "1 " * 140, 6)


class WrongAskings(unittest.TestCase):

    def refused(self, asking):
        with self.subTest(asking=asking), self.assertRaises(BadAsking) as caught:
            asking_text(asking)
        self.assertEqual(caught.exception.word, "BadAsking")
        self.assertIsInstance(caught.exception, CleaveError)

    def test_tuples_of_six_that_are_no_askings(self):
        for asking in (
            ("most", 3, 0, (), (), ()), ("", 3, 0, (), (), ()), ("Least", 3, 0, (), (), ()), ("least ", 3, 0, (), (), ()),
            ("least", 7, 0, (), (), ()), ("least", -1, 0, (), (), ()), ("least", 0, 7, (), (), ()),
            ("least", 0, -1, (), (), ()), ("least", 999999999, 0, (), (), ()), ("least", 3, 3, (), (), ()),
            ("least", 3, 0, (3,), (), ()), ("least", 3, 0, (), (0,), ()), ("least", 3, 0, (), (), (3,)),
            ("least", 3, 0, (2, 1), (), ()), ("least", 3, 0, (), (2, 1), ()), ("least", 3, 0, (), (), (2, 1)),
            ("least", 3, 0, (1, 1), (), ()), ("least", 3, 0, (), (4, 4), ()), ("least", 3, 0, (), (), (5, 5)),
            ("least", 3, 0, (1,), (1,), ()), ("least", 3, 0, (1,), (), (1,)), ("least", 3, 0, (), (1,), (1,)),
            ("least", 3, 0, (7,), (), ()), ("least", 3, 0, (), (7,), ()), ("least", 3, 0, (), (), (7,)),
            ("least", 3, 0, (-1,), (), ()), ("greatest", 3, 0, (1, 2, 5), (4, 6, 7), ()),
            ("greatest", 3, 0, (1, 2, 4, 5, 6, 6), (), ()), ("greatest", 0, 0, (2, 1), (9,), (9,)),
            ("greatest", 3, 0, tuple(range(64)), (), ()),
        ):
            self.refused(asking)
            self.refused([*asking[:3], *[list(group) for group in asking[3:]]])

    def test_just_the_askings_are_let(self):
        let = {asking for asking, _ in ALL}
        chance = Random(3)
        met = set()
        for _ in range(20000):
            groups = [tuple(chance.randint(-1, 7) for _ in range(chance.choice((0, 0, 1, 1, 2)))) for _ in range(3)]
            asking = (chance.choice(("least", "greatest")), chance.randint(0, 7), chance.randint(0, 6), *groups)
            if asking in let:
                self.assertEqual(read_asking(asking_text(asking)), asking)
            else:
                self.refused(asking)
            met.add(asking in let)
        self.assertEqual(met, {True, False})


if __name__ == "__main__":
    unittest.main()
