"""Names [4] and ranks [5]."""

import string
import unittest

from tests import helper
from wirenames.errors import NoName, NoNext
from wirenames.names import is_greater, is_name, next_name

NAMES = ["a", "z", "ab", "abcdefgh", "zzzzzzzz", "a2", "a9", "z5", "abcdefgh2", "abcdefgh9"]

NO_NAMES = [
    "",
    "2",
    "9",
    "22",
    "abcdefghi",
    "abcdefghi2",
    "a1",
    "a0",
    "a22",
    "a29",
    "a12",
    "abcdefgh22",
    "A",
    "aB",
    "Ab",
    "a-",
    "a b",
    " a",
    "a ",
    "a2b",
    "2a",
    "a\n",
    "a_",
    "`",
    "{",
    "a" * 400,
    "\u00e4",
    "a\u0662",
    "a\u00b2",
]


class Names(unittest.TestCase):
    def test_names(self):
        for name in NAMES:
            self.assertIs(is_name(name), True, name)

    def test_no_names(self):
        for text in NO_NAMES:
            self.assertIs(is_name(text), False, text)

    def test_every_sign_alone_and_behind_a_letter(self):
        for sign in map(chr, range(32, 127)):
            self.assertIs(is_name(sign), sign in string.ascii_lowercase, sign)
            self.assertIs(is_name("a" + sign), sign in string.ascii_lowercase + "23456789", sign)
            self.assertIs(is_name(sign + "a"), sign in string.ascii_lowercase, sign)

    def test_lengths_with_and_without_a_figure(self):
        for many in range(12):
            self.assertIs(is_name("k" * many), 1 <= many <= 8)
            self.assertIs(is_name("k" * many + "7"), 1 <= many <= 8)

    def test_things_that_are_no_texts(self):
        for thing in helper.any_things() + [["a"], ("a",), 2, 0, ("a", "b")]:
            self.assertIs(is_name(thing), False)


class NextNames(unittest.TestCase):
    def test_up_to_the_last_one(self):
        for stem in ("a", "ab", "abcdefgh"):
            name = stem
            for figure in "23456789":
                name = next_name(name)
                self.assertEqual(name, stem + figure)
            with self.assertRaises(NoNext):
                next_name(name)

    def test_no_name(self):
        for thing in NO_NAMES + helper.any_things() + [["a"], ("a",), 2]:
            with self.assertRaises(NoName):
                next_name(thing)

    def test_no_name_comes_ahead_of_no_next(self):
        for text in ("9", "abcdefghi9", "a99", "A9", " 9"):
            with self.assertRaises(NoName):
                next_name(text)

    def test_by_name(self):
        self.assertEqual(next_name(name="b"), "b2")
        self.assertIs(is_name(thing="b"), True)


class Ranks(unittest.TestCase):
    def test_the_greater_mark_is_first(self):
        self.assertIs(is_greater((5, 0), (4, 7)), True)
        self.assertIs(is_greater((4, 7), (5, 0)), False)
        self.assertIs(is_greater((999, 0), (0, 7)), True)
        self.assertIs(is_greater((10, 0), (9, 7)), True)

    def test_alike_marks_leave_it_to_the_hands(self):
        self.assertIs(is_greater((4, 3), (4, 2)), True)
        self.assertIs(is_greater((4, 2), (4, 3)), False)
        self.assertIs(is_greater((0, 7), (0, 0)), True)

    def test_the_same_rank_is_not_greater(self):
        self.assertIs(is_greater((4, 3), (4, 3)), False)

    def test_of_two_ranks_exactly_one_is_greater(self):
        ranks = [(mark, hand) for mark in (0, 1, 9, 10, 999) for hand in range(8)]
        for rank in ranks:
            for other in ranks:
                greater = rank[0] > other[0] or (rank[0] == other[0] and rank[1] > other[1])
                self.assertIs(is_greater(rank, other), greater)
                self.assertIs(is_greater(rank=other, other=rank), not greater and rank != other)


if __name__ == "__main__":
    unittest.main()
