"""[3.8], [3.9]: closed lists, the least ring within them, the counts that spoil and those that do not."""

import unittest
from collections import Counter
from itertools import product

from looseorder.closed import closed_ring, greatest_counts, spoiling_counts
from looseorder.coincide import first_exchange
from looseorder.counts import counts_used
from looseorder.errors import BadCounts
from looseorder.frames import Frame
from looseorder.rings import Ring, ring_fault
from looseorder.stocks import Stock
from looseorder.tongues import Tongue
from support import (STRANGE, all_alike, are_tuples, four_stocks, great, nesting, one_frame, refuses, roles_in,
                     some_tongues, two_roles, walk_alike, walk_rings, words)

RANK = {"one": 0, "many": 1}


def two_stocks(first, second, rules=(), agreed=None):
    """One frame of three noun roles, which two stocks bear, and a frame of the first two."""
    stocks = [Stock("n", words(first, 3)), Stock("m", words(second, 3))]
    return Tongue(["r", "s", "t"], stocks, [Frame("f", [0, 1, 2], None, agreed), Frame("g", [0, 1])], rules)


def three_stocks(rules=(), agreed=None):
    """Stock a shows 0 and 1 alike, b shows 1 and 2, c shows 0 and 2, each in one couple of numbers."""
    stocks = [Stock("a", words("pq qr xy", 3)), Stock("b", words("uv pq pz", 3)), Stock("c", words("pq xy pr", 3))]
    return Tongue(["r", "s", "t"], stocks, [Frame("f", [0, 1, 2], None, agreed)], rules)


def tongues():
    return some_tongues(25, 38, 3) + [
        two_roles(), nesting(agreed=1, rules=[(0, 3)]), all_alike(1), all_alike(3), all_alike(3, [(0, 1)]),
        two_stocks("ab ba cd", "ab cd ba"), two_stocks("ab ba cd", "cd ab ab", [(0, 1)]),
        two_stocks("ab bc ca", "de ed fa", (), 1), two_stocks("ab cd ef", "ab bc ca", [(0, 1)], 2),
        two_stocks("ab xy zb", "cd aa xx", [(1, 2)]), one_frame(words("ab bc ca", 3), [(0, 2)], 0),
        three_stocks(), three_stocks([(2, 1)]), three_stocks((), 0)]


def least_key(entry):
    frame, steps = entry
    moved = sum(step[0] != step[1] for step in steps)
    return (moved, frame, [s[1] for s in steps], [s[2] for s in steps], [RANK[s[3]] for s in steps],
            [RANK[s[4]] for s in steps])


def walk_closed(tongue):
    """All rings with what they use of each stock, the least first."""
    rings = [(frame, steps) for frame in range(len(tongue.frames)) for steps in walk_rings(tongue, frame)]
    told = []
    for frame, steps in sorted(rings, key=least_key):
        used = Counter(step[2] for step in steps)
        told.append((tuple(used[stock] for stock in range(len(tongue.stocks))), frame, steps))
    return told


def is_within(less, more):
    return all(need <= count for need, count in zip(less, more))


def boxes(tongue, most=4):
    return list(product(range(most + 1), repeat=len(tongue.stocks)))


class ClosedRingTest(unittest.TestCase):
    def test_the_least_ring(self):
        found = set()
        for tongue in tongues():
            rings = walk_closed(tongue)
            for counts in boxes(tongue):
                within = [Ring(frame, steps) for used, frame, steps in rings if is_within(used, counts)]
                ring = closed_ring(tongue, counts)
                self.assertEqual(ring, within[0] if within else None)
                if ring is not None:
                    self.assertIs(type(ring), Ring)
                    self.assertIsNone(ring_fault(tongue, ring, counts))
                    self.assertTrue(are_tuples(ring.steps))
                    found.add(ring.steps)
        self.assertGreater(len(found), 20)

    def test_none_exactly_if_no_two_patterns_within_the_counts(self):
        for tongue in tongues()[::3]:
            lots = [(frame, lot) for frame in range(len(tongue.frames)) for lot in walk_alike(tongue, frame)]
            # Patterns that are heard alike have the same stocks, so one of a lot tells what is used.
            spoilt = [counts_used(tongue, frame, lot[0]) for frame, lot in lots
                      if len({roles_in(pattern) for pattern in lot}) > 1]
            for counts in boxes(tongue, 3):
                spoils = any(is_within(used, counts) for used in spoilt)
                self.assertEqual(closed_ring(tongue, counts) is not None, spoils)

    def test_fewest_steps_that_move_come_first(self):
        # With one noun of each stock there are rings of three steps alone, with a lesser row of goals.
        goals = [[step[1] for step in closed_ring(three_stocks(), counts).steps] for counts in ((1, 1, 1), (1, 1, 2))]
        self.assertEqual(goals, [[1, 2, 0], [2, 1, 0]])

    def test_frames_then_goals_then_stocks_then_numbers_then_mates(self):
        tongue = two_stocks("aa aa aa", "aa aa aa")
        self.assertEqual(closed_ring(tongue, [1, 2]).steps, (
            (0, 0, 0, "one", "one"), (1, 2, 1, "one", "one"), (2, 1, 1, "one", "one")))
        self.assertEqual(closed_ring(tongue, [0, 2]), Ring(1, (
            (0, 1, 1, "one", "one"), (1, 0, 1, "one", "one"))))
        # Here a number gives way to the row of numbers as a whole, not a step to the next.
        turned = two_stocks("ab ba cc", "dd ee ff")
        self.assertEqual(closed_ring(turned, [2, 1]).steps, (
            (0, 1, 0, "one", "many"), (1, 0, 0, "one", "many"), (2, 2, 1, "one", "one")))

    def test_agreement_can_save(self):
        stocks = [Stock("n", words("ab ca", 2)), Stock("m", words("dc ce", 2))]
        tongue = Tongue(["r", "s"], stocks, [Frame("f", [0, 1])])
        self.assertIsNotNone(closed_ring(tongue, [1, 1]))
        for role in (0, 1):
            agreed = tongue.with_agreed(0, role)
            self.assertIsNotNone(first_exchange(agreed))
            self.assertIsNone(closed_ring(agreed, [1, 1]))
            self.assertIsNotNone(closed_ring(agreed, [2, 0]))
        self.assertIsNotNone(closed_ring(three_stocks(), [1, 1, 1]))
        self.assertIsNone(closed_ring(three_stocks((), 0), [1, 1, 1]))

    def test_five_nouns_of_a_stock(self):
        tongue = great()
        self.assertIsNone(closed_ring(tongue, [1, 14, 14, 14]))
        self.assertEqual(closed_ring(tongue, [2, 1, 0, 0]).frame, 3)
        tongue = all_alike(5, [(0, 1), (1, 2), (2, 3)])
        self.assertIsNone(closed_ring(tongue, [4]))
        self.assertEqual([step[1] for step in closed_ring(tongue, [5]).steps], [0, 1, 2, 4, 3])
        self.assertEqual(closed_ring(tongue, [5]), closed_ring(tongue, [14]))

    def test_wrong(self):
        for counts in (*STRANGE, [1], [1, 2, 3], [1, 15], [-1, 1], [True, 1], ["1", 1]):
            refuses(self, BadCounts, {}, closed_ring, nesting(), counts)
            if counts is not None:
                refuses(self, BadCounts, {}, greatest_counts, nesting(), counts)

    def test_nothing_changes(self):
        counts = [2, 3]
        closed_ring(nesting(), counts)
        greatest_counts(nesting(), counts)
        self.assertEqual(counts, [2, 3])


class SpoilingTest(unittest.TestCase):
    def test_least_counts(self):
        for tongue in tongues():
            used = {told for told, _, _ in walk_closed(tongue)}
            least = {told for told in used if not any(is_within(less, told) and less != told for less in used)}
            found = spoiling_counts(tongue)
            self.assertEqual(found, tuple(sorted(least)))
            self.assertTrue(are_tuples(found))
            self.assertEqual(found == (), first_exchange(tongue) is None)

    def test_for_all_counts(self):
        for tongue in tongues():
            spoiling, greatest = spoiling_counts(tongue), greatest_counts(tongue)
            self.assertGreater(len(greatest), 0)
            for counts in boxes(tongue):
                is_safe = closed_ring(tongue, counts) is None
                self.assertEqual(is_safe, not any(is_within(less, counts) for less in spoiling))
                self.assertEqual(is_safe, any(is_within(counts, more) for more in greatest))

    def test_four_stocks(self):
        tongue = four_stocks()
        self.assertEqual(spoiling_counts(tongue), tuple(sorted(spoiling_counts(tongue))))
        for tongue in (four_stocks(), four_stocks([(3, 0)], None), great()):
            for counts in spoiling_counts(tongue):
                self.assertIsNotNone(closed_ring(tongue, counts))
                for stock in range(4):
                    if counts[stock] > 0:
                        less = (*counts[:stock], counts[stock] - 1, *counts[stock + 1:])
                        self.assertIsNone(closed_ring(tongue, less))


class GreatestTest(unittest.TestCase):
    def check(self, tongue, counts, most):
        spoiling = spoiling_counts(tongue)
        safe = [told for told in product(*[range(count + 1) for count in most])
                if not any(is_within(less, told) for less in spoiling)]
        greatest = [told for told in safe if not any(told != more and is_within(told, more) for more in safe)]
        found = greatest_counts(tongue, counts)
        self.assertEqual(found, tuple(sorted(greatest)))
        self.assertTrue(are_tuples(found))

    def test_within_counts(self):
        for tongue in tongues():
            for counts in ((0,) * len(tongue.stocks), [1] * len(tongue.stocks), list(range(3, 3 + len(tongue.stocks))),
                           (14, 2, 3)[:len(tongue.stocks)]):
                self.check(tongue, counts, counts)

    def test_all(self):
        for tongue in tongues():
            self.check(tongue, None, (14,) * len(tongue.stocks))
            self.assertEqual(greatest_counts(tongue), greatest_counts(tongue, (14,) * len(tongue.stocks)))

    def test_plain(self):
        self.assertEqual(greatest_counts(two_roles([(0, 1)])), ((14,),))
        self.assertEqual(greatest_counts(two_roles()), ((1,),))
        self.assertEqual(greatest_counts(two_roles(), [0]), ((0,),))
        self.assertEqual(greatest_counts(all_alike(5, [(0, 1), (1, 2), (2, 3)])), ((4,),))
        self.assertEqual(greatest_counts(two_stocks("aa aa aa", "aa aa aa")), ((0, 1), (1, 0)))
        # Frame "f" needs three nouns: two of "n" and one more of either stock.
        tongue = two_stocks("ab cd cd", "ee ff gg")
        self.assertEqual(spoiling_counts(tongue), ((2, 1), (3, 0)))
        self.assertEqual(greatest_counts(tongue), ((1, 14), (2, 0)))
        self.assertEqual(greatest_counts(tongue, (2, 3)), ((1, 3), (2, 0)))

    def test_four_stocks(self):
        tongue = four_stocks()
        self.check(tongue, (3, 3, 3, 3), (3, 3, 3, 3))
        self.check(great(), (4, 2, 2, 2), (4, 2, 2, 2))


if __name__ == "__main__":
    unittest.main()
