"""[2.1], [2.7], [2.8] all that can be said and shown, and which roles settle the others."""

import unittest
from itertools import combinations

from looseorder.errors import BadThings, NoFrame, NoReading
from looseorder.flat import count_flat, flat_readings, role_rows
from looseorder.frames import Frame
from looseorder.sayable import Most, all_patterns, all_shown, asking_lots, count_patterns, most_rows
from looseorder.stocks import Stock
from looseorder.tongues import Tongue
from support import (STRANGE, are_tuples, great, heard_things, refuses, some_tongues, two_roles, walk_orders,
                     walk_patterns, walk_readings, walk_shown)


def small_frames(count, seed):
    """Frames of some tongues that have no more than 300 patterns."""
    return [(tongue, frame) for tongue in some_tongues(count, seed) for frame in range(len(tongue.frames))
            if count_patterns(tongue, frame) <= 300]


def walk_all_shown(tongue, frame):
    found = []
    for pattern in walk_patterns(tongue, frame):
        shown = walk_shown(tongue, frame, pattern)
        if shown not in found:
            found.append(shown)
    return found


class PatternsTest(unittest.TestCase):
    def test_by_roles_then_stocks_then_numbers(self):
        stocks = [Stock("n", [(0, ("a",), ("b",)), (1, ("a",), ("b",))]), Stock("m", [(1, ("a",), ("b",))])]
        tongue = Tongue(["x", "y"], stocks, [Frame("f", (0, 1))])
        found = list(all_patterns(tongue, 0))
        self.assertEqual(len(found), 16)
        self.assertEqual(found[:5], [((0, 0, "one"), (1, 0, "one")), ((0, 0, "one"), (1, 0, "many")),
                                     ((0, 0, "many"), (1, 0, "one")), ((0, 0, "many"), (1, 0, "many")),
                                     ((0, 0, "one"), (1, 1, "one"))])
        self.assertEqual(found[8], ((1, 0, "one"), (0, 0, "one")))
        self.assertTrue(all(are_tuples(pattern) for pattern in found))

    def test_against_a_walk(self):
        for tongue, frame in small_frames(40, 21):
            expected = walk_patterns(tongue, frame)
            self.assertEqual(list(all_patterns(tongue, frame)), expected)
            self.assertEqual(count_patterns(tongue, frame), len(expected))

    def test_the_count_for_great_frames(self):
        tongue = great()
        bearing = {0: 2, 1: 2, 2: 2, 3: 2, 4: 1}
        many = len(walk_orders(tongue, 0))
        for role in range(5):
            many *= 2 * bearing[role]
        self.assertEqual(count_patterns(tongue, 0), many)
        self.assertEqual(count_patterns(tongue.with_rules([]), 0), 720 * 2 ** 5 * 16)

    def test_the_first_ones_of_a_great_frame(self):
        first = None
        for first in all_patterns(great().with_rules([]), 0):
            break
        self.assertEqual(first, (*[(role, 0, "one") for role in range(5)], (5, None, None)))

    def test_frame(self):
        for frame in (*STRANGE, -1, 2):
            for call in (count_patterns, most_rows, lambda *args: list(all_patterns(*args)),
                         lambda *args: list(all_shown(*args))):
                refuses(self, NoFrame, {"frame": frame}, call, two_roles(), frame)


class ShownTest(unittest.TestCase):
    def test_each_once_in_the_order_of_the_first_pattern(self):
        for tongue, frame in small_frames(30, 22):
            found = list(all_shown(tongue, frame))
            self.assertEqual(found, walk_all_shown(tongue, frame))
            self.assertTrue(all(are_tuples(shown) for shown in found))

    def test_two_roles(self):
        found = list(all_shown(two_roles(), 0))
        self.assertEqual(found[0], (((0, ("a",)), (0, ("a",))), None))
        self.assertEqual(len(found), 7)

    def test_the_counts_of_readings_add_up(self):
        for tongue, frame in small_frames(30, 23):
            shown = list(all_shown(tongue, frame))
            self.assertEqual(sum(count_flat(tongue, frame, *told) for told in shown), count_patterns(tongue, frame))
            for told in shown[:10]:
                self.assertGreaterEqual(count_flat(tongue, frame, *told), 1)

    def test_each_pattern_is_a_reading_of_just_what_is_shown_of_it(self):
        for tongue, frame in small_frames(10, 24):
            readings = [pattern for told in all_shown(tongue, frame) for pattern in flat_readings(tongue, frame, *told)]
            self.assertEqual(sorted(map(repr, readings)), sorted(map(repr, all_patterns(tongue, frame))))


class MostTest(unittest.TestCase):
    def test_two_roles(self):
        self.assertEqual(most_rows(two_roles(), 0), Most(2, ((0, ("a",)), (0, ("a",))), None))
        self.assertEqual(most_rows(two_roles([(0, 1)]), 0), Most(1, ((0, ("a",)), (0, ("a",))), None))
        self.assertEqual(most_rows(two_roles(), 1), Most(1, ((0, ("a",)),), None))

    def test_the_first_that_has_so_many(self):
        stock = Stock("n", [(0, ("a",), ("b",)), (1, ("c",), ("b",))])
        tongue = Tongue(["x", "y"], [stock], [Frame("f", (0, 1), None, 1)])
        self.assertEqual(most_rows(tongue, 0), Most(2, ((0, ("b",)), (0, ("b",))), "many"))

    def test_against_a_walk(self):
        for tongue, frame in small_frames(40, 25):
            counts = [(len({tuple(entry[0] for entry in reading) for reading in walk_readings(tongue, frame, *shown)}),
                       shown) for shown in walk_all_shown(tongue, frame)]
            many = max(count for count, _ in counts)
            things, number = [shown for count, shown in counts if count == many][0]
            found = most_rows(tongue, frame)
            self.assertEqual(found, Most(many, things, number))
            self.assertTrue(are_tuples(found.things))

    def test_one_exactly_if_the_frame_is_clear(self):
        for tongue, frame in small_frames(40, 26):
            patterns = walk_patterns(tongue, frame)
            rows = {}
            for pattern in patterns:
                rows.setdefault(walk_shown(tongue, frame, pattern), set()).add(tuple(e[0] for e in pattern))
            self.assertIs(most_rows(tongue, frame).many == 1, all(len(unlike) == 1 for unlike in rows.values()))

    def test_a_frame_of_a_thousand_patterns(self):
        stock = Stock("n", [(role, ("a",), ("b",)) for role in range(4)])
        tongue = Tongue(list("abcd"), [stock], [Frame("f", (0, 1, 2, 3))])
        self.assertEqual(count_patterns(tongue, 0), 384)
        self.assertEqual(most_rows(tongue, 0), Most(24, ((0, ("a",)),) * 4, None))

    def test_equal(self):
        most = Most(1, (2,), "one")
        self.assertEqual((most.many, most.things, most.number), (1, (2,), "one"))
        self.assertIs(most == Most(1, (2,), "one"), True)
        self.assertIs(most != Most(1, (2,), "one"), False)
        for other in (Most(2, (2,), "one"), Most(1, (3,), "one"), Most(1, (2,), "many"), Most(1, (2,), None),
                      (1, (2,), "one"), *STRANGE):
            self.assertIs(most == other, False)
            self.assertIs(most != other, True)
            self.assertIs(other == most, False)


class AskingTest(unittest.TestCase):
    def walk(self, tongue, frame, things, number):
        rows = {tuple(entry[0] for entry in reading) for reading in walk_readings(tongue, frame, things, number)}
        nouns = [place for place, thing in enumerate(things) if thing is not None]
        for size in range(len(nouns) + 1):
            lots = [lot for lot in combinations(nouns, size)
                    if len({tuple(row[place] for place in lot) for row in rows}) == len(rows)]
            if lots:
                return tuple(lots)
        return None

    def test_two_rows(self):
        self.assertEqual(asking_lots(two_roles(), 0, [(0, None), (0, None)], None), ((0,), (1,)))

    def test_one_row(self):
        self.assertEqual(asking_lots(two_roles([(0, 1)]), 0, [[0, None], [0, None]], None), ((),))
        self.assertEqual(asking_lots(two_roles(), 1, [(0, None)], None), ((),))

    def test_all_but_one(self):
        stock = Stock("n", [(role, ("a",), ("b",)) for role in range(4)])
        tongue = Tongue(list("abcd"), [stock], [Frame("f", (0, 1, 2, 3))])
        found = asking_lots(tongue, 0, [(0, None)] * 4, None)
        self.assertEqual(found, ((0, 1, 2), (0, 1, 3), (0, 2, 3), (1, 2, 3)))
        self.assertTrue(are_tuples(found))

    def test_the_place_of_the_clause_is_in_no_lot(self):
        stock = Stock("n", [(0, ("a",), ("b",)), (2, ("a",), ("b",))])
        tongue = Tongue(list("abc"), [stock], [Frame("f", (0, 2), 1), Frame("g", (0,))])
        self.assertEqual(asking_lots(tongue, 0, [None, (0, None), (0, None)], None), ((1,), (2,)))
        self.assertEqual(asking_lots(tongue, 0, [(0, None), None, (0, None)], None), ((0,), (2,)))

    def test_against_a_walk(self):
        for tongue, frame, things, number in heard_things(some_tongues(25, 27, 5), 6):
            if len(things) < 5:
                expected = self.walk(tongue, frame, things, number)
                self.assertEqual(asking_lots(tongue, frame, things, number), expected)

    def test_all_nouns_but_one_settle_the_last(self):
        for tongue, frame, things, number in heard_things(some_tongues(15, 28)):
            rows = role_rows(tongue, frame, things, number)
            nouns = [place for place, thing in enumerate(things) if thing is not None]
            for lot in combinations(nouns, len(nouns) - 1):
                self.assertEqual(len({tuple(row[place] for place in lot) for row in rows}), len(rows))

    def test_errors(self):
        none = [(0, ("q",)), (0, ("q",))]
        refuses(self, NoReading, {}, asking_lots, two_roles(), 0, none, None)
        refuses(self, BadThings, {"index": 0, "what": "number"}, asking_lots, two_roles(), 0, none, "one")
        refuses(self, BadThings, {"index": 1, "what": "clause"}, asking_lots, two_roles(), 0, [none[0], None], None)
        refuses(self, NoFrame, {"frame": None}, asking_lots, two_roles(), None, none, "one")


if __name__ == "__main__":
    unittest.main()
