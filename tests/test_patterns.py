"""[0.3], [0.4], [0.8] to [0.10], [1.7] patterns."""

import unittest

from looseorder.errors import BadPattern, NoFrame
from looseorder.patterns import check_pattern, plain_pattern, row_of_roles
from support import (STRANGE, are_tuples, great, nesting, refuses, some_tongues, two_roles, walk_orders, walk_patterns)


def bad(test, index, what, tongue, frame, pattern):
    refuses(test, BadPattern, {"index": index, "what": what}, check_pattern, tongue, frame, pattern)


class CheckTest(unittest.TestCase):
    def test_right_patterns_come_back_in_tuples(self):
        tongue = nesting(rules=[(0, 2)])
        for pattern in ([[0, 0, "many"], (2, None, None), [1, 1, "one"]],
                        ((1, 0, "one"), [0, 0, "one"], [2, None, None])):
            found = check_pattern(tongue, 0, pattern)
            self.assertEqual(found, tuple(tuple(entry) for entry in pattern))
            self.assertTrue(are_tuples(found))

    def test_all_patterns_of_some_tongues(self):
        for tongue in some_tongues(12, 2, 3):
            for frame in range(len(tongue.frames)):
                for pattern in walk_patterns(tongue, frame):
                    self.assertEqual(check_pattern(tongue, frame, [list(entry) for entry in pattern]), pattern)

    def test_frame(self):
        for frame in (*STRANGE, -1, 4, [0]):
            refuses(self, NoFrame, {"frame": frame}, check_pattern, nesting(), frame, None)

    def test_many(self):
        right = ((0, 0, "one"), (1, 0, "one"))
        for pattern in (*STRANGE, (), right[:1], (*right, (2, None, None)), "ab", {0: right[0], 1: right[1]},
                        iter(right)):
            bad(self, 0, "many", two_roles(), 0, pattern)

    def test_row(self):
        for entry in (*STRANGE, (), (0, 0), (0, 0, "one", 1), "abc", {0: 0, 1: 0, 2: 0}):
            bad(self, 0, "row", two_roles(), 0, [entry, None])
            bad(self, 1, "row", two_roles(), 0, [(1, 0, "many"), entry])

    def test_role(self):
        for role in (*STRANGE, -1, 2, 10 ** 30, [0], "0", True):
            bad(self, 0, "role", two_roles(), 0, [(role, 9, "x"), None])
        for role in (1, True, False, 2):
            bad(self, 1, "role", two_roles(), 0, [(1, 0, "one"), (role, 0, "one")])
        bad(self, 0, "role", nesting(), 0, [(3, 0, "one"), (0, 0, "one"), (1, 0, "one")])
        bad(self, 1, "role", nesting(), 0, [(2, None, None), (2, None, None), (1, 0, "one")])

    def test_stock(self):
        for stock in (*STRANGE, -1, 1, 2, 10 ** 30, [0], "0"):
            bad(self, 0, "stock", nesting(), 0, [(0, stock, "x"), None, None])
        bad(self, 0, "stock", nesting(), 0, [(1, 2, "one"), None, None])
        bad(self, 0, "stock", two_roles(), 0, [(1, -1, "one"), None])
        for stock in (*STRANGE[1:], 0, 1):
            bad(self, 0, "stock", nesting(), 0, [(2, stock, 1), None, None])

    def test_number(self):
        for number in (*STRANGE, "two", 0, 1, ["one"], "One"):
            bad(self, 0, "number", nesting(), 0, [(0, 0, number), None, None])
        for number in (*STRANGE[1:], "one", "many", 0):
            bad(self, 0, "number", nesting(), 0, [(2, None, number), None, None])

    def test_rule(self):
        tongue = nesting(rules=[(0, 3), (3, 1), (0, 2)])
        bad(self, 1, "rule", tongue, 0, [(1, 0, "one"), (0, 0, "one"), (2, None, None)])
        bad(self, 2, "rule", tongue, 0, [(2, None, None), (1, 0, "one"), (0, 0, "one")])
        bad(self, 1, "rule", tongue, 1, [(3, 0, "one"), (0, 0, "one"), (1, 0, "one")])
        bad(self, 1, "rule", tongue, 1, [(1, 0, "one"), (3, 0, "one"), (0, 0, "one")])
        self.assertEqual(len(check_pattern(tongue, 0, [(0, 0, "one"), (2, None, None), (1, 0, "one")])), 3)

    def test_which_is_asked_first(self):
        tongue = two_roles(rules=[(0, 1)])
        bad(self, 0, "role", tongue, 0, [(9, 9, "x"), None])
        bad(self, 0, "stock", tongue, 0, [(0, 9, "x"), None])
        bad(self, 0, "number", tongue, 0, [(0, 0, "x"), None])
        bad(self, 0, "number", tongue, 0, [(1, 0, "x"), (0, 0, "one")])
        bad(self, 1, "number", tongue, 0, [(1, 0, "one"), (0, 0, "x")])
        bad(self, 1, "rule", tongue, 0, [(1, 0, "one"), (0, 0, "one")])

    def test_what_is_passed_in_stays(self):
        pattern = [[1, 0, "one"], [0, 0, "many"]]
        found = check_pattern(two_roles(), 0, pattern)
        self.assertEqual(pattern, [[1, 0, "one"], [0, 0, "many"]])
        pattern[0][0] = 7
        self.assertEqual(found, ((1, 0, "one"), (0, 0, "many")))


class PlainTest(unittest.TestCase):
    def test_plain_patterns(self):
        self.assertEqual(plain_pattern(two_roles(), 0), ((0, 0, "one"), (1, 0, "one")))
        self.assertEqual(plain_pattern(two_roles([(1, 0)]), 0), ((1, 0, "one"), (0, 0, "one")))
        self.assertEqual(plain_pattern(nesting(rules=[(2, 1)]), 0),
                         ((0, 0, "one"), (2, None, None), (1, 0, "one")))
        self.assertEqual(plain_pattern(great(), 3), ((0, None, None), (4, 0, "one"), (5, 0, "one")))

    def test_the_first_stock_that_bears_the_role(self):
        tongue = nesting().with_stock(0, [(0, ("a",), ("b",))])
        self.assertEqual(plain_pattern(tongue, 1), ((0, 0, "one"), (1, 1, "one"), (3, 1, "one")))

    def test_over_a_role_that_the_frame_lacks(self):
        tongue = nesting(rules=[(1, 3), (3, 0)])
        self.assertEqual(row_of_roles(plain_pattern(tongue, 0)), (1, 0, 2))

    def test_the_least_of_all_patterns(self):
        for tongue in some_tongues(60, 3, 5):
            for frame, told in enumerate(tongue.frames):
                plain = plain_pattern(tongue, frame)
                self.assertEqual(row_of_roles(plain), walk_orders(tongue, frame)[0])
                self.assertEqual(check_pattern(tongue, frame, plain), plain)
                for role, stock, number in plain:
                    bearing = [s for s, t in enumerate(tongue.stocks) if role in t.borne]
                    self.assertEqual((stock, number), (None, None) if role == told.clause else (bearing[0], "one"))

    def test_frame(self):
        for frame in (*STRANGE, -1, 4):
            refuses(self, NoFrame, {"frame": frame}, plain_pattern, nesting(), frame)


class RowTest(unittest.TestCase):
    def test_row_of_roles(self):
        self.assertEqual(row_of_roles(((2, None, None), (0, 1, "one"), (5, 0, "many"))), (2, 0, 5))
        found = row_of_roles([[2, None, None], (0, 1, "one")])
        self.assertEqual(found, (2, 0))
        self.assertIsInstance(found, tuple)


if __name__ == "__main__":
    unittest.main()
