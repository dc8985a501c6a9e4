"""[0.4], [2.2], [2.3] what is shown of a pattern."""

import unittest

from looseorder.errors import BadEnding, BadPattern, BadPlaces, BadThings, NoFrame, NoStock
from looseorder.shown import bearers, check_things, hide_endings, shown_of
from support import (NUMBERS, STRANGE, are_tuples, great, nesting, refuses, some_tongues, table_of, two_roles,
                     walk_patterns, walk_shown)


def bad(test, index, what, tongue, frame, things, number=None):
    refuses(test, BadThings, {"index": index, "what": what}, check_things, tongue, frame, things, number)


class ShownTest(unittest.TestCase):
    def test_one_pattern(self):
        tongue = nesting("last", 1)
        found = shown_of(tongue, 0, [[1, 1, "many"], (2, None, None), [0, 0, "one"]])
        self.assertEqual(found, (((1, ("b",)), None, (0, ("a",))), "many"))
        self.assertTrue(are_tuples(found))
        self.assertEqual(shown_of(tongue.with_agreed(0, 0), 0, [(1, 1, "many"), (2, None, None), (0, 0, "one")])[1],
                         "one")

    def test_role_nought_can_be_agreed_and_none_is_no_role(self):
        self.assertEqual(shown_of(nesting(), 2, [(0, 0, "many")]), (((0, ("a", "s")),), "many"))
        self.assertEqual(shown_of(nesting(), 0, [(1, 1, "many"), (2, None, None), (0, 0, "many")])[1], None)

    def test_all_patterns_of_some_tongues(self):
        for tongue in some_tongues(15, 14, 3):
            for frame in range(len(tongue.frames)):
                for pattern in walk_patterns(tongue, frame):
                    self.assertEqual(shown_of(tongue, frame, pattern), walk_shown(tongue, frame, pattern))

    def test_errors(self):
        right = [(0, 0, "one"), (1, 0, "one")]
        for frame in (*STRANGE, -1, 2):
            refuses(self, NoFrame, {"frame": frame}, shown_of, two_roles(), frame, None)
        for index, what, pattern in ((0, "many", None), (1, "row", [right[0], 0]), (1, "role", [right[0], right[0]]),
                                     (1, "stock", [right[0], (1, 1, "one")]), (1, "number", [right[0], (1, 0, 1)])):
            refuses(self, BadPattern, {"index": index, "what": what}, shown_of, two_roles(), 0, pattern)
        refuses(self, BadPattern, {"index": 1, "what": "rule"}, shown_of, two_roles([(1, 0)]), 0, right)


class BearersTest(unittest.TestCase):
    def test_ascending_one_ahead_of_many(self):
        tongue = nesting()
        self.assertEqual(bearers(tongue, 0, ("a",)), ((0, "one"), (1, "one")))
        self.assertEqual(bearers(tongue, 1, ["b"]), ((1, "many"), (3, "one"), (3, "many")))
        self.assertEqual(bearers(tongue, 0, ["a", "s"]), ((0, "many"),))
        self.assertEqual(bearers(tongue, 0, [""]), ((3, "one"),))
        self.assertEqual(bearers(tongue, 0, ["q"]), ())
        self.assertEqual(bearers(tongue, 0, ["a", ""]), ())

    def test_all_roles_if_the_ending_is_none(self):
        self.assertEqual(bearers(nesting(), 1, None), ((1, "one"), (1, "many"), (3, "one"), (3, "many")))
        self.assertTrue(are_tuples(bearers(nesting(), 1, None)))

    def test_against_the_table(self):
        for tongue in some_tongues(30, 15, 6):
            for stock in range(len(tongue.stocks)):
                table = table_of(tongue, stock)
                for ending in (None, ("a",), ("b",), ("a", "b"), ("",)):
                    found = [(role, number) for role in range(6) for number in NUMBERS
                             if (role, number) in table and ending in (None, table[role, number])]
                    self.assertEqual(bearers(tongue, stock, ending), tuple(found))

    def test_errors(self):
        for stock in (*STRANGE, -1, 2):
            refuses(self, NoStock, {"stock": stock}, bearers, nesting(), stock, ())
        for ending in (*STRANGE[1:], (), "a", ("abcd",), ["a"] * 5):
            refuses(self, BadEnding, {}, bearers, nesting(), 0, ending)


class CheckTest(unittest.TestCase):
    def test_right_things_come_back_in_tuples(self):
        tongue = nesting("last", 1)
        things = [[0, ["a"]], None, (1, None)]
        found = check_things(tongue, 0, things, "one")
        self.assertEqual(found, ((0, ("a",)), None, (1, None)))
        self.assertTrue(are_tuples(found))
        self.assertEqual(things, [[0, ["a"]], None, (1, None)])
        things[0][1][0] = "x"
        self.assertEqual(found[0], (0, ("a",)))

    def test_any_ending_is_let(self):
        self.assertEqual(check_things(two_roles(), 1, [(0, ["zzz", "", "q", ""])], None), ((0, ("zzz", "", "q", "")),))

    def test_what_is_shown_is_right(self):
        for tongue in some_tongues(15, 16, 3):
            for frame in range(len(tongue.frames)):
                for pattern in walk_patterns(tongue, frame):
                    things, number = walk_shown(tongue, frame, pattern)
                    self.assertEqual(check_things(tongue, frame, list(things), number), things)

    def test_frame(self):
        for frame in (*STRANGE, -1, 2):
            refuses(self, NoFrame, {"frame": frame}, check_things, two_roles(), frame, None, 5)

    def test_many(self):
        thing = (0, ("a",))
        for things in (*STRANGE, (), [thing], [thing] * 3, "ab", {0: thing, 1: thing}, iter([thing, thing])):
            bad(self, 0, "many", two_roles(), 0, things, 5)
        bad(self, 0, "many", nesting(), 0, [thing, thing])

    def test_thing(self):
        for thing in (*STRANGE[1:], (), (0,), (0, ("a",), 1), (1, ("a",)), (-1, ("a",)), (True, None), (None, ("a",)),
                      (False, ("a",)), ("0", None), ([0], None), (0, ()), (0, "a"), (0, ("abcd",)), (0, ("a",) * 5),
                      (0, (1,)), (0, False), (0, ""), {0: 0, 1: None}, (10 ** 30, None)):
            bad(self, 0, "thing", two_roles(), 0, [thing, None], 5)
            bad(self, 1, "thing", two_roles(), 0, [(0, None), thing], 5)

    def test_clause(self):
        bad(self, 0, "clause", two_roles(), 0, [None, 5], 5)
        bad(self, 1, "clause", two_roles(), 0, [(0, None), None], 5)
        bad(self, 1, "clause", nesting(), 0, [None, None, 5], 5)
        bad(self, 2, "clause", nesting(), 0, [None, (0, None), None], 5)
        bad(self, 0, "clause", nesting(), 0, [(0, None), (0, None), (0, None)], 5)

    def test_number(self):
        for number in (*STRANGE, "two", 1, ["one"]):
            bad(self, 0, "number", nesting(), 2, [(0, None)], number)
        for number in (*STRANGE[1:], "one", "many", 0):
            bad(self, 0, "number", two_roles(), 0, [(0, None), (0, None)], number)
        for number in NUMBERS:
            self.assertEqual(check_things(nesting(), 2, [(0, None)], number), ((0, None),))

    def test_which_is_asked_first(self):
        bad(self, 0, "thing", nesting(), 0, [5, None, None], 5)
        bad(self, 1, "clause", nesting(), 0, [None, None, 5], 5)
        bad(self, 1, "thing", nesting(), 0, [(0, None), 5, (0, None)], 5)
        bad(self, 2, "thing", great(), 0, [None, (0, None), 5, (0, None), (0, None), None], None)


class HideTest(unittest.TestCase):
    THINGS = ((0, ("a",)), None, (1, ("b", "c")), (0, None))

    def test_swallowed(self):
        for places, expected in (((), self.THINGS), ([0], ((0, None), *self.THINGS[1:])),
                                 ([2], (*self.THINGS[:2], (1, None), self.THINGS[3])), ((3,), self.THINGS),
                                 ((0, 2, 3), ((0, None), None, (1, None), (0, None)))):
            found = hide_endings(self.THINGS, places)
            self.assertEqual(found, expected)
            self.assertTrue(are_tuples(found))

    def test_lists(self):
        things = [[0, ["a"]], None, [1, ["b", "c"]]]
        found = hide_endings(things, [2])
        self.assertEqual(found, ((0, ("a",)), None, (1, None)))
        self.assertTrue(are_tuples(found))
        self.assertEqual(things, [[0, ["a"]], None, [1, ["b", "c"]]])
        things[0][1][0] = "x"
        self.assertEqual(found[0], (0, ("a",)))
        self.assertTrue(are_tuples(hide_endings(things, [])))

    def test_places(self):
        for places in (*STRANGE, 0, (1,), (4,), (-1,), (0, 0), (2, 0), (0, 1, 2), (0, True), (False,), (2, 2), ("0",),
                       ([0],), (None,), {0: 1}, iter((0,)), (0, 3, 2), (10 ** 30,), "0"):
            refuses(self, BadPlaces, {}, hide_endings, self.THINGS, places)
        refuses(self, BadPlaces, {}, hide_endings, ((0, None), (0, None)), (True,))
        refuses(self, BadPlaces, {}, hide_endings, (), (0,))
        self.assertEqual(hide_endings((), ()), ())


if __name__ == "__main__":
    unittest.main()
