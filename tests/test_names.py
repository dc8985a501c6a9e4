"""[0.1], [0.2], [1.1] whole numbers, names, numbers, endings."""

import unittest

from looseorder.errors import BadEnding
from looseorder.names import NUMBERS, ending_from, is_ending, is_name, is_number, is_whole, number_rank
from support import STRANGE, refuses


class WholeTest(unittest.TestCase):
    def test_any_int_and_no_bool(self):
        for thing in (0, 1, -1, 10 ** 4500, -10 ** 4500):
            self.assertIs(is_whole(thing), True)
        for thing in (*STRANGE, "1", (1,), [1], 1 + 0j):
            self.assertIs(is_whole(thing), False, thing)

    def test_ends_are_within(self):
        self.assertEqual([n for n in range(-3, 9) if is_whole(n, 2, 4)], [2, 3, 4])
        self.assertEqual([n for n in range(-3, 4) if is_whole(n, 1)], [1, 2, 3])
        self.assertEqual([n for n in range(-3, 4) if is_whole(n, None, 1)], [-3, -2, -1, 0, 1])
        self.assertEqual([n for n in range(-3, 4) if is_whole(n, low=-1, high=0)], [-1, 0])
        self.assertEqual([n for n in range(-3, 4) if is_whole(n, high=-2)], [-3, -2])

    def test_an_end_of_nought_is_asked(self):
        self.assertIs(is_whole(-1, 0), False)
        self.assertIs(is_whole(1, None, 0), False)
        self.assertIs(is_whole(0, 0, 0), True)

    def test_bools_are_never_whole(self):
        self.assertIs(is_whole(True, 0, 5), False)
        self.assertIs(is_whole(False, 0, 5), False)
        self.assertIs(is_whole(None, 0), False)
        self.assertIs(is_whole("3", 0, 5), False)

    def test_very_great_ends(self):
        self.assertIs(is_whole(10 ** 100, 0, 5), False)
        self.assertIs(is_whole(-10 ** 100, 0, 5), False)
        self.assertIs(is_whole(10 ** 100, 0, 10 ** 100), True)


class NameTest(unittest.TestCase):
    def test_names(self):
        for thing in ("a", "z", "abcdefgh", "zzzzzzzz"):
            self.assertIs(is_name(thing, 8), True)
        for thing in (*STRANGE[:5], *STRANGE[6:], "", "abcdefghi", "A", "a1", "a b", "a-b", "\u00e9", "\u00df",
                      "a\n", " a", "`", "{", ["a"], ("a", "b"), b"a"):
            self.assertIs(is_name(thing, 8), False, thing)

    def test_the_most(self):
        self.assertEqual([is_name("abc", most) for most in (0, 1, 2, 3, 4)], [False, False, False, True, True])
        self.assertIs(is_name("a" * 14, 14), True)
        self.assertIs(is_name("a" * 15, 14), False)


class NumberTest(unittest.TestCase):
    def test_the_two_numbers_in_their_order(self):
        self.assertEqual(NUMBERS, ("one", "many"))
        self.assertIsInstance(NUMBERS, tuple)

    def test_just_two_texts(self):
        self.assertIs(is_number("one"), True)
        self.assertIs(is_number("many"), True)
        for thing in (*STRANGE, "two", "One", "on", "onemany", ["one"], ("many",), 0, 1, b"one"):
            self.assertIs(is_number(thing), False, thing)

    def test_ranks(self):
        self.assertEqual([number_rank(number) for number in ("one", None, "many")], [0, 0, 1])


class EndingTest(unittest.TestCase):
    RIGHT = [["a"], ("",), ["", ""], ("abc", "z", "", "xyz"), ["a", "s"]]
    WRONG = [*STRANGE, [], (), "abc", ["abcd"], ["a"] * 5, ("", "", "", "", ""), ["A"], ["a1"], ["-"], [None], [1],
             [["a"]], ("a", None), ("a", ("b",)), {"a": 1}, [b"a"], ["\u00e9"]]

    def test_endings(self):
        for thing in self.RIGHT:
            self.assertIs(is_ending(thing), True, thing)
        for thing in self.WRONG:
            self.assertIs(is_ending(thing), False, thing)

    def test_ending_from(self):
        for thing in self.RIGHT:
            found = ending_from(thing)
            self.assertEqual(found, tuple(thing))
            self.assertIsInstance(found, tuple)
        for thing in self.WRONG:
            refuses(self, BadEnding, {}, ending_from, thing)

    def test_a_later_change_is_not_seen(self):
        parts = ["a", "b"]
        ending = ending_from(parts)
        parts[0] = "c"
        self.assertEqual(ending, ("a", "b"))


if __name__ == "__main__":
    unittest.main()
