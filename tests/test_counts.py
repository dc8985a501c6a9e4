"""[3.8]: closed lists and what a pattern uses of them."""

import unittest
from collections import Counter

from looseorder.counts import check_counts, counts_used
from looseorder.errors import BadCounts, BadPattern, NoFrame
from support import STRANGE, are_tuples, four_stocks, great, nesting, refuses, some_tongues, two_roles, walk_patterns


class CountsTest(unittest.TestCase):
    def test_right(self):
        for counts in ((0, 0), [0, 14], (14, 14), [3, 5]):
            found = check_counts(nesting(), counts)
            self.assertEqual((type(found), found), (tuple, tuple(counts)))
        self.assertEqual(check_counts(two_roles(), [14]), (14,))
        self.assertEqual(check_counts(great(), (0, 1, 2, 3)), (0, 1, 2, 3))

    def test_wrong(self):
        for counts in (*STRANGE, [], (), [1], [1, 2, 3], {0: 1, 1: 2}, iter([1, 2]), "12", b"12"):
            refuses(self, BadCounts, {}, check_counts, nesting(), counts)
        for count in (-1, 15, 10 ** 30, "3", [3], *STRANGE):
            refuses(self, BadCounts, {}, check_counts, nesting(), [count, 1])
            refuses(self, BadCounts, {}, check_counts, nesting(), [1, count])

    def test_nothing_changes(self):
        counts = [3, 4]
        found = check_counts(nesting(), counts)
        counts[0] = 9
        self.assertEqual((found, counts), ((3, 4), [9, 4]))


class UsedTest(unittest.TestCase):
    def test_ordinary(self):
        tongue = nesting()
        self.assertEqual(counts_used(tongue, 1, [(3, 1, "one"), (0, 0, "one"), (1, 1, "many")]), (1, 2))
        # The clause is no noun.
        self.assertEqual(counts_used(tongue, 0, [(2, None, None), (1, 0, "one"), (0, 0, "many")]), (2, 0))

    def test_all_patterns(self):
        for tongue in some_tongues(20, 38, 3) + [four_stocks(), nesting()]:
            for frame in range(len(tongue.frames)):
                for pattern in walk_patterns(tongue, frame):
                    found = counts_used(tongue, frame, pattern)
                    told = Counter(entry[1] for entry in pattern)
                    self.assertEqual(found, tuple(told[stock] for stock in range(len(tongue.stocks))))
                    self.assertTrue(are_tuples(found))

    def test_wrong(self):
        for frame in (4, -1, *STRANGE):
            refuses(self, NoFrame, {"frame": frame}, counts_used, nesting(), frame, None)
        pattern = [(1, 0, "one"), (0, 0, "one")]
        refuses(self, BadPattern, {"index": 1, "what": "rule"}, counts_used, two_roles([(0, 1)]), 0, pattern)
        refuses(self, BadPattern, {"index": 0, "what": "many"}, counts_used, two_roles(), 0, pattern[:1])
        refuses(self, BadPattern, {"index": 0, "what": "stock"}, counts_used, two_roles(), 0, [(1, 1, "one"), None])


if __name__ == "__main__":
    unittest.main()
