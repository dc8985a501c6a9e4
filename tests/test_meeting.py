"""[8.15], [8.16]: orders that are safe with hearers of other tongues, and tongues joined."""

import unittest
from itertools import permutations

from looseorder.coincide import first_exchange
from looseorder.errors import BadHabit, BadHearers, BadPair, NoFrame
from looseorder.foreign import pair_word, right_reading
from looseorder.frames import Frame
from looseorder.meeting import Hearer, joined_tongue, safe_for_all, safe_with
from looseorder.safety import safe_orders
from looseorder.stocks import Stock
from looseorder.tongues import Tongue
from support import (STRANGE, Sayable, all_alike, are_tuples, great, nesting, one_frame, rank_by, refuses, roles_in,
                     some_pairs, some_tongues, two_roles, walk_closure, walk_orders, walk_patterns, walk_readings,
                     walk_shown, words)


def pairs():
    found = some_pairs(40, 141) + [(two_roles(), two_roles([(0, 1)])), (all_alike(3), all_alike(3, [(0, 1)]))]
    three = [one_frame(words(text, 3), rules, 1) for text, rules in (
        ("ab cd ef", ()), ("ab cd fe", [(0, 1)]), ("cd ab ef", ()), ("ab bc ca", [(0, 2)]), ("ab bc ca", ()))]
    # Three nouns are led round in one direction alone, and all are read rightly, too.
    found.append((one_frame(words("aa bb cc", 3)), one_frame(words("ac ba cb", 3))))
    return found + [(one, other) for one in three for other in three]


def habits_of(tongue):
    return list(permutations(range(len(tongue.roles))))


def walk_safe(one, other, habit, frame, readings):
    """The orders in which each pattern is taken with its own roles, from all patterns and readings."""
    safe = []
    for order in walk_orders(one, frame):
        told = [readings[said] for said in readings if roles_in(said) == order]
        if all(rows and min(rows, key=lambda row: rank_by(habit, row)) == order for rows in told):
            safe.append(order)
    return safe


def all_readings(one, other, frame):
    return {said: {roles_in(read) for read in walk_readings(other, frame, *walk_shown(one, frame, said))}
            for said in walk_patterns(one, frame)}


class HearerTest(unittest.TestCase):
    def test_hearer(self):
        habit = [1, 0]
        hearer = Hearer(two_roles(), habit)
        self.assertEqual((hearer.tongue, hearer.habit), (two_roles(), (1, 0)))
        habit[0] = 9
        self.assertEqual(hearer.habit, (1, 0))
        self.assertEqual(hearer, Hearer(two_roles(), (1, 0)))
        self.assertFalse(hearer != Hearer(two_roles(), (1, 0)))
        for other in (Hearer(two_roles(), (0, 1)), Hearer(two_roles([(0, 1)]), (1, 0)), None, (1, 0), Sayable()):
            self.assertNotEqual(hearer, other)
            self.assertFalse(hearer == other)

    def test_wrong(self):
        for habit in ([0], [0, 0], [0, 1, 2], [0, True], *STRANGE):
            refuses(self, BadHabit, {}, Hearer, two_roles(), habit)


class SafeTest(unittest.TestCase):
    def test_against_all_patterns(self):
        kinds = set()
        for one, other in pairs():
            for frame in range(len(one.frames)):
                readings = all_readings(one, other, frame)
                for habit in habits_of(one):
                    found = list(safe_with(one, Hearer(other, habit), frame))
                    self.assertEqual(found, walk_safe(one, other, habit, frame, readings))
                    self.assertTrue(are_tuples(tuple(found)))
                    kinds.add((len(found) > 0, found == walk_orders(one, frame)))
        self.assertEqual(kinds, {(True, True), (True, False), (False, False)})

    def test_with_itself(self):
        for tongue in some_tongues(15, 142, 3) + [all_alike(3), all_alike(3, [(2, 0)])]:
            for frame in range(len(tongue.frames)):
                for habit in habits_of(tongue):
                    self.assertEqual(list(safe_with(tongue, Hearer(tongue, habit), frame)),
                                     list(safe_orders(tongue, habit, frame)))

    def test_right_exactly_if_every_order_is_safe(self):
        words_met = set()
        for one, other in pairs():
            safe = all(list(safe_with(one, Hearer(other, habit), frame)) == walk_orders(one, frame)
                       for habit in habits_of(one) for frame in range(len(one.frames)))
            self.assertEqual(pair_word(one, other) == "right", safe)
            words_met.add(pair_word(one, other))
        self.assertEqual(words_met, {"right", "wrong", "missed"})

    def test_a_missed_ending_leaves_none(self):
        one = one_frame(words("ab cd", 2))
        other = one_frame(words("ab ce", 2))
        self.assertEqual(right_reading(one, other).what, "ending")
        for habit in ((0, 1), (1, 0)):
            self.assertEqual(list(safe_with(one, Hearer(other, habit), 0)), [])
            self.assertEqual(list(safe_with(other, Hearer(one, habit), 0)), [])
        # A missed rule leaves the orders that keep it.
        ruled = one.with_rule(1, 0)
        self.assertEqual(list(safe_with(one, Hearer(ruled, (0, 1)), 0)), [(1, 0)])
        self.assertEqual(list(safe_with(ruled, Hearer(one, (0, 1)), 0)), [(1, 0)])
        turned = one.with_rule(0, 1)
        self.assertEqual(list(safe_with(turned, Hearer(ruled, (0, 1)), 0)), [])

    def test_a_frame_alone_counts(self):
        """An ending that is missed in one frame is none in a frame without its role."""
        noun = Stock("n", [(0, ("a",), ("b",)), (1, ("c",), ("d",))])
        one = Tongue(["p", "q"], [noun], [Frame("go", (0,)), Frame("see", (0, 1))])
        other = one.with_ending(0, 1, "one", ("q",))
        hearer = Hearer(other, (0, 1))
        self.assertEqual(list(safe_with(one, hearer, 0)), [(0,)])
        self.assertEqual(list(safe_with(one, hearer, 1)), [])

    def test_errors_in_their_order(self):
        hearer = Hearer(nesting(), (0, 1, 2, 3))
        refuses(self, BadPair, {}, lambda: list(safe_with(nesting(agreed=1), hearer, 9)))
        refuses(self, BadPair, {}, lambda: list(safe_with(nesting("first"), hearer, 0)))
        for frame in (4, -1, "0", *STRANGE):
            refuses(self, NoFrame, {"frame": frame}, lambda told: list(safe_with(nesting(), hearer, told)), frame)

    def test_great(self):
        one = great()
        hearer = Hearer(one, (5, 4, 3, 2, 1, 0))
        self.assertEqual(list(safe_with(one, hearer, 0)), list(safe_orders(one, hearer.habit, 0)))


class AllTest(unittest.TestCase):
    def test_with_one_two_and_three(self):
        sizes = set()
        for at, (one, other) in enumerate(pairs()):
            habits = habits_of(one)
            hearers = [Hearer(other, habits[at % len(habits)]), Hearer(one, habits[0]), Hearer(other, habits[-1])]
            for many in (1, 2, 3):
                for frame in range(len(one.frames)):
                    lots = [set(safe_with(one, hearer, frame)) for hearer in hearers[:many]]
                    found = safe_for_all(one, hearers[:many], frame)
                    self.assertEqual(found, tuple(sorted(set.intersection(*lots))))
                    self.assertEqual(found, safe_for_all(one, tuple(hearers[:many]), frame))
                    self.assertTrue(are_tuples(found))
                    sizes.add((many, min(len(found), 2)))
        self.assertTrue(sizes >= {(many, size) for many in (1, 2, 3) for size in (0, 1, 2)})

    def test_errors_in_their_order(self):
        one = nesting()
        hearer = Hearer(one, (0, 1, 2, 3))
        for hearers in ([], (), [hearer] * 4, hearer, *STRANGE):
            refuses(self, BadHearers, {"index": 0}, safe_for_all, one, hearers, 9)
        foreign = Hearer(nesting(agreed=1), (0, 1, 2, 3))
        for wrong in (foreign, one, (0, 1, 2, 3), Sayable(), *STRANGE):
            refuses(self, BadHearers, {"index": 0}, safe_for_all, one, [wrong], 9)
            refuses(self, BadHearers, {"index": 1}, safe_for_all, one, [hearer, wrong], 0)
            refuses(self, BadHearers, {"index": 1}, safe_for_all, one, [hearer, wrong, foreign], 9)
            refuses(self, BadHearers, {"index": 2}, safe_for_all, one, [hearer, hearer, wrong], 0)
        for frame in (4, -1, "0", *STRANGE):
            refuses(self, NoFrame, {"frame": frame}, safe_for_all, one, [hearer], frame)

    def test_nothing_changes(self):
        one, hearer = all_alike(3), Hearer(all_alike(3, [(0, 1)]), [2, 1, 0])
        hearers = [hearer]
        safe_for_all(one, hearers, 0)
        list(safe_with(one, hearer, 0))
        self.assertEqual((one, hearers), (all_alike(3), [Hearer(all_alike(3, [(0, 1)]), (2, 1, 0))]))


class JoinedTest(unittest.TestCase):
    def test_joined(self):
        rings = 0
        books = [(), [(0, 1)], [(1, 0)], [(1, 2), (0, 1)], [(2, 0)], [(0, 2)]]
        for one, other in pairs() + [(all_alike(3, book), all_alike(3, mate)) for book in books for mate in books]:
            rules = sorted({*one.rules, *other.rules})
            found = joined_tongue(one, other)
            if any(a == b for a, b in walk_closure(rules)):
                self.assertIsNone(found)
                rings += 1
            else:
                self.assertEqual(found, Tongue(one.roles, one.stocks, one.frames, rules, one.verbs))
        self.assertGreater(rings, 3)

    def test_right_if_the_other_is_clear(self):
        met = set()
        for one, other in pairs():
            same = Tongue(other.roles, one.stocks, other.frames, other.rules, other.verbs)
            joined = joined_tongue(one, same)
            if joined is not None and first_exchange(same) is None:
                self.assertEqual(pair_word(joined, same), "right")
                met.add(pair_word(one, same))
        self.assertTrue({"wrong", "missed"} & met)

    def test_many_rules(self):
        rules = [(a, b) for a in range(6) for b in range(a + 1, 6)]
        one = great().with_rules(rules)
        self.assertEqual(joined_tongue(one, one), one)
        self.assertEqual(joined_tongue(great().with_rules([]), one), one)
        self.assertIsNone(joined_tongue(one, great().with_rules([(5, 0)])))

    def test_wrong(self):
        refuses(self, BadPair, {}, joined_tongue, nesting(), nesting("free"))
        refuses(self, BadPair, {}, joined_tongue, nesting(), nesting(agreed=0))

    def test_nothing_changes(self):
        one, other = two_roles([(0, 1)]), two_roles([(1, 0)])
        self.assertIsNone(joined_tongue(one, other))
        self.assertEqual((one, other), (two_roles([(0, 1)]), two_roles([(1, 0)])))


if __name__ == "__main__":
    unittest.main()
