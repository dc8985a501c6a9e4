"""[0.4], [0.5], [2.1], [2.4] to [2.6] readings of one clause."""

import unittest
from itertools import combinations

from looseorder.errors import BadPlaces, BadThings, NoFrame, NoReading
from looseorder.flat import Sure, Two, count_flat, first_two, flat_readings, role_rows, sure_role
from looseorder.frames import Frame
from looseorder.patterns import row_of_roles
from looseorder.stocks import Stock
from looseorder.tongues import Tongue
from support import (STRANGE, are_tuples, great, heard_things, nesting, refuses, some_tongues, two_roles,
                     walk_patterns, walk_readings, walk_shown)

BOTH = ((0, ("a",)), (0, ("a",)))


class ReadingsTest(unittest.TestCase):
    def test_both_orders(self):
        found = list(flat_readings(two_roles(), 0, BOTH, None))
        self.assertEqual(found, [((0, 0, "one"), (1, 0, "one")), ((1, 0, "one"), (0, 0, "one"))])
        self.assertTrue(all(are_tuples(pattern) for pattern in found))
        found = list(flat_readings(two_roles([(1, 0)]), 0, [[0, ["a"]], [0, ["a"]]], None))
        self.assertEqual(found, [((1, 0, "one"), (0, 0, "one"))])

    def test_a_rule_over_a_role_that_the_frame_lacks(self):
        tongue = nesting(rules=[(1, 3), (3, 0)])
        found = list(flat_readings(tongue, 0, [(0, None), None, (0, None)], None))
        self.assertEqual({row_of_roles(pattern) for pattern in found}, {(1, 2, 0)})

    def test_rows_of_roles_and_then_of_numbers(self):
        found = list(flat_readings(two_roles(), 0, [(0, None), (0, None)], None))
        numbers = [("one", "one"), ("one", "many"), ("many", "one"), ("many", "many")]
        self.assertEqual(found, [tuple((role, 0, told) for role, told in zip(row, told_row))
                                 for row in ((0, 1), (1, 0)) for told_row in numbers])

    def test_the_clause_role_counts_in_the_order(self):
        found = list(role_rows(nesting(), 3, [(1, None), None], None))
        self.assertEqual(found, [(1, 2)])
        tongue = Tongue(list("abc"), [Stock("n", [(r, ("x",), ("y",)) for r in (0, 2)])],
                        [Frame("f", (0, 2), 1), Frame("g", (0,))])
        self.assertEqual(role_rows(tongue, 0, [None, (0, None), (0, None)], None), ((1, 0, 2), (1, 2, 0)))

    def test_the_heard_number(self):
        tongue = nesting("last", 1)
        things = [(0, None), None, (0, None)]
        for number in ("one", "many"):
            found = list(flat_readings(tongue, 0, things, number))
            self.assertEqual(len(found), 4)
            self.assertTrue(all(told == number for pattern in found for role, _, told in pattern if role == 1))
        self.assertEqual(count_flat(tongue, 0, [(1, ("a",)), None, (0, ("a",))], "one"), 1)
        self.assertEqual(count_flat(tongue, 0, [(1, ("a",)), None, (0, ("a",))], "many"), 0)

    def test_things_without_a_reading(self):
        for things in ([(0, ("q",)), (0, None)], [(0, ("s",)), (0, ("s",))], [(0, ("a", "")), (0, ("a",))]):
            self.assertEqual(list(flat_readings(two_roles(), 0, things, None)), [])
            self.assertEqual(count_flat(two_roles(), 0, things, None), 0)
            self.assertEqual(role_rows(two_roles(), 0, things, None), ())
            self.assertIsNone(first_two(two_roles(), 0, things, None))

    def test_a_stock_that_does_not_bear_a_role(self):
        found = role_rows(nesting(), 1, [(1, None), (0, None), (1, None)], None)
        self.assertEqual(found, ((1, 0, 3), (3, 0, 1)))
        self.assertEqual(role_rows(nesting(), 1, [(1, None)] * 3, None), ())

    def test_one_slot(self):
        self.assertEqual(list(flat_readings(two_roles(), 1, [(0, None)], None)), [((0, 0, "one"),), ((0, 0, "many"),)])
        self.assertIsNone(first_two(two_roles(), 1, [(0, None)], None))

    def test_against_all_patterns(self):
        for tongue, frame, things, number in heard_things(some_tongues(30, 17)):
            expected = walk_readings(tongue, frame, things, number)
            rows = sorted({row_of_roles(pattern) for pattern in expected})
            self.assertEqual(list(flat_readings(tongue, frame, things, number)), expected)
            self.assertEqual(count_flat(tongue, frame, things, number), len(expected))
            self.assertEqual(role_rows(tongue, frame, things, number), tuple(rows))

    def test_the_greatest_frame(self):
        tongue = great().with_rules([])
        things = [(0, None)] * 5 + [None]
        self.assertEqual(count_flat(tongue, 0, things, "many"), 120 * 16)
        self.assertEqual(len(role_rows(tongue, 0, things, "one")), 120)
        free = [(0, None), None, *[(0, None)] * 4]
        self.assertEqual(len(list(flat_readings(tongue, 0, free, "one"))), 120 * 16)

    def test_what_is_passed_in_stays(self):
        things = [[0, ["a"]], [0, None]]
        list(flat_readings(two_roles(), 0, things, None))
        sure_role(two_roles(), 0, things, None, 0)
        self.assertEqual(things, [[0, ["a"]], [0, None]])

    def test_nothing_is_kept_between_calls(self):
        for _ in range(2):
            self.assertEqual(count_flat(two_roles(), 0, BOTH, None), 2)
            self.assertEqual(count_flat(two_roles([(0, 1)]), 0, BOTH, None), 1)

    def test_errors(self):
        def run(*args):
            return list(flat_readings(*args))
        for call in (run, count_flat, role_rows, first_two):
            refuses(self, NoFrame, {"frame": 9}, call, two_roles(), 9, None, 5)
            refuses(self, NoFrame, {"frame": True}, call, two_roles(), True, None, 5)
            refuses(self, BadThings, {"index": 0, "what": "many"}, call, two_roles(), 0, BOTH[:1], 5)
            refuses(self, BadThings, {"index": 1, "what": "thing"}, call, two_roles(), 0, [BOTH[0], 5], 5)
            refuses(self, BadThings, {"index": 1, "what": "clause"}, call, two_roles(), 0, [BOTH[0], None], 5)
            refuses(self, BadThings, {"index": 0, "what": "clause"}, call, nesting(), 0, [(0, None)] * 3, 5)
            refuses(self, BadThings, {"index": 0, "what": "number"}, call, two_roles(), 0, BOTH, "one")


class TwoTest(unittest.TestCase):
    def test_first_two(self):
        two = first_two(two_roles(), 0, BOTH, None)
        self.assertEqual(two, Two(((0, 0, "one"), (1, 0, "one")), ((1, 0, "one"), (0, 0, "one"))))
        self.assertTrue(are_tuples(two.one) and are_tuples(two.other))
        self.assertIsNone(first_two(two_roles([(0, 1)]), 0, [(0, None), (0, None)], None))

    def test_against_all_readings(self):
        for tongue, frame, things, number in heard_things(some_tongues(25, 18)):
            readings = walk_readings(tongue, frame, things, number)
            unlike = [other for other in readings if row_of_roles(other) != row_of_roles(readings[0])]
            expected = Two(readings[0], unlike[0]) if unlike else None
            self.assertEqual(first_two(tongue, frame, things, number), expected)


class SureTest(unittest.TestCase):
    def test_sure_and_two(self):
        tongue = Tongue(list("abc"), [Stock("n", [(r, ("x",), ("y",)) for r in range(3)])], [Frame("f", (0, 1, 2))],
                        [(0, 1), (0, 2)])
        things = [(0, ("x",))] * 3
        self.assertEqual(sure_role(tongue, 0, things, None, 0), Sure(0))
        two = sure_role(tongue, 0, things, None, 1)
        self.assertEqual((row_of_roles(two.one), row_of_roles(two.other)), ((0, 1, 2), (0, 2, 1)))

    def test_against_all_readings(self):
        for tongue, frame, things, number in heard_things(some_tongues(25, 19)):
            readings = walk_readings(tongue, frame, things, number)
            for place, thing in enumerate(things):
                if thing is None:
                    refuses(self, BadPlaces, {}, sure_role, tongue, frame, things, number, place)
                    continue
                unlike = [other for other in readings if other[place][0] != readings[0][place][0]]
                expected = Two(readings[0], unlike[0]) if unlike else Sure(readings[0][place][0])
                self.assertEqual(sure_role(tongue, frame, things, number, place), expected)

    def test_places(self):
        for place in (*STRANGE, -1, 2, [0], "0", 10 ** 30):
            refuses(self, BadPlaces, {}, sure_role, two_roles(), 0, BOTH, None, place)
        refuses(self, BadPlaces, {}, sure_role, nesting(), 0, [(0, None), None, (0, None)], None, 1)
        refuses(self, BadPlaces, {}, sure_role, nesting(), 0, [(0, None), None, (0, None)], None, 3)

    def test_which_is_asked_first(self):
        none = [(0, ("q",)), (0, ("q",))]
        refuses(self, NoReading, {}, sure_role, two_roles(), 0, none, None, 1)
        refuses(self, BadPlaces, {}, sure_role, two_roles(), 0, none, None, 2)
        refuses(self, BadThings, {"index": 0, "what": "number"}, sure_role, two_roles(), 0, none, "one", 2)
        refuses(self, NoFrame, {"frame": 5}, sure_role, two_roles(), 5, none, "one", 2)


class ResultTest(unittest.TestCase):
    def test_attributes(self):
        rows = [1, 2]
        self.assertIs(Sure(rows).role, rows)
        self.assertIs(Two(rows, None).one, rows)
        self.assertIs(Two(None, rows).other, rows)

    def test_equal(self):
        for one, same, others in ((Sure(1), Sure(1), (Sure(2), Sure(None), 1, Two(1, 1))),
                                  (Two(1, 2), Two(1, 2), (Two(2, 1), Two(1, 1), Two(2, 2), (1, 2), Sure(1)))):
            self.assertIs(one == same, True)
            self.assertIs(one != same, False)
            for other in (*others, *STRANGE):
                self.assertIs(one == other, False)
                self.assertIs(one != other, True)
                self.assertIs(other == one, False)


class ClearTest(unittest.TestCase):
    """[3.1] tells it: patterns heard alike differ in roles exactly if two roles that coincide are side by side."""

    def test_further_rules_never_add_readings(self):
        for tongue in some_tongues(20, 20, 3):
            for ahead, behind in combinations(range(len(tongue.roles)), 2):
                if not tongue.are_beside(ahead, behind):
                    continue
                more = tongue.with_rule(ahead, behind)
                for frame in range(len(tongue.frames)):
                    for pattern in walk_patterns(tongue, frame)[:6]:
                        shown = walk_shown(tongue, frame, pattern)
                        self.assertLessEqual(set(flat_readings(more, frame, *shown)),
                                             set(flat_readings(tongue, frame, *shown)))


if __name__ == "__main__":
    unittest.main()
