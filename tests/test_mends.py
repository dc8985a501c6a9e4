"""[10.9]: picks of changes behind which a tongue grants all wishes."""

import unittest
from itertools import combinations
from random import Random

from looseorder.errors import BadChange, BadWish
from looseorder.mends import Mends, Spoiler, find_mends, find_spoilers
from looseorder.wishes import Broken, broken_fault
from support import (STRANGE, all_alike, are_tuples, nesting, one_frame, refuses, some_tongues, two_roles,
                     walk_closure, words)
from test_changes import listed, some_changes, walk_changes
from test_wishes import granted, some_wishes


def picks(many):
    return [pick for size in range(many + 1) for pick in combinations(range(many), size)]


def behind(tongue, pool, pick):
    return walk_changes(tongue, [pool[place] for place in pick])


def broken_at(tongue, wishes):
    """The place of the first wish that is not granted, or None."""
    return next((at for at, wish in enumerate(wishes) if not granted(tongue, wish)), None)


def some_benches(count, seed, forms=("rule", "strike", "ending", "wear", "article")):
    """Tongues with a pool of one to five changes and with wishes."""
    source = Random(seed)
    near = [two_roles(), two_roles([(1, 0)]), all_alike(2), all_alike(3, [(0, 1)]), one_frame(words("ab ac", 2)),
            one_frame(words("aa ab bb", 3), [(0, 2)], 1)]
    for tongue in some_tongues(count, seed, 3) + near * (count // 8):
        told = forms if len(tongue.roles) > 1 else ("ending", "wear")
        pool = some_changes(tongue, source, source.randint(1, 5), told)
        wishes = some_wishes(tongue, source, source.randint(1, 3))
        yield tongue, pool, (("clear",), *wishes) if source.random() < 0.5 else wishes


class MendsTest(unittest.TestCase):
    def check(self, tongue, pool, wishes):
        places = {pick: broken_at(behind(tongue, pool, pick), wishes) for pick in picks(len(pool))}
        good = [pick for pick in places if places[pick] is None]
        least = tuple(pick for pick in good if not any(set(other) < set(pick) for other in good))
        lost = [pick for pick in places if not any(set(other) <= set(pick) for other in least)]
        found = find_mends(tongue, listed(pool), listed(wishes))
        self.assertEqual((type(found), found.least), (Mends, least))
        self.assertEqual([pick for pick, _ in found.losses], lost)
        for pick, broken in found.losses:
            self.judge(behind(tongue, pool, pick), wishes, broken, places[pick])
        needed = [place for place in range(len(pool)) if least and all(place in pick for pick in least)]
        self.assertEqual(found.needed, tuple(needed))
        self.assertTrue(are_tuples((found.least, found.needed)))
        self.assertTrue(isinstance(found.losses, tuple) and all(isinstance(row, tuple) for row in found.losses))
        spoilers = find_spoilers(tongue, listed(pool), listed(wishes))
        self.assertIsInstance(spoilers, tuple)
        spoiled = [(pick, added) for pick in least for added in range(len(pool))
                   if added not in pick and places[tuple(sorted((*pick, added)))] is not None]
        self.assertEqual([(row.pick, row.added) for row in spoilers], spoiled)
        for row in spoilers:
            pick = tuple(sorted((*row.pick, row.added)))
            self.assertIsInstance(row, Spoiler)
            self.judge(behind(tongue, pool, pick), wishes, row.broken, places[pick])
        return found, spoilers

    def judge(self, tongue, wishes, broken, place):
        self.assertEqual((type(broken), broken.index), (Broken, place))
        self.assertIsNone(broken_fault(tongue, wishes, broken))

    def test_against_all_picks(self):
        met = set()
        for tongue, pool, wishes in some_benches(160, 231):
            found, spoilers = self.check(tongue, pool, wishes)
            met |= {("least", min(2, len(found.least))), ("needed", min(1, len(found.needed))),
                    ("spoil", len(spoilers) > 0), ("size", len(found.least[0]) if found.least else None)}
        self.assertTrue(met >= {("least", 0), ("least", 1), ("least", 2), ("needed", 0), ("needed", 1), ("spoil", True),
                                ("spoil", False), ("size", None), ("size", 0), ("size", 1)})

    def test_several_least_picks(self):
        tongue = one_frame(words("aa aa", 2))
        pool = [("ending", 0, 0, "one", ("b",)), ("rule", 0, 1), ("rule", 1, 0), ("ending", 0, 0, "many", ("c",)),
                ("wear", ())]
        found, _ = self.check(tongue, pool, [("clear",)])
        self.assertEqual((found.least, found.needed), (((1,), (2,), (0, 3)), ()))
        found, _ = self.check(tongue, pool, [("clear",), ("orders", 0, 2)])
        self.assertEqual((found.least, found.needed), (((0, 3),), (0, 3)))
        found, _ = self.check(tongue, pool, [("clear",), ("endings", 0, 2)])
        self.assertEqual(found.least, ((1,), (2,)))
        found, _ = self.check(tongue, pool[:1] + pool[2:4], [("clear",), ("endings", 0, 1)])
        self.assertEqual(found.needed, (1,))

    def test_needed_in_some_but_not_all(self):
        tongue = one_frame(words("aa aa bb", 3))
        pool = [("rule", 0, 1), ("ending", 0, 2, "one", ("a",)), ("wear", (("b", "c"),)), ("rule", 1, 0)]
        found, _ = self.check(tongue, pool, [("clear",), ("endings", 0, 2)])
        self.assertEqual((found.least, found.needed), (((0,), (3,)), ()))
        self.assertEqual(Mends(((0, 1, 3), (0, 2, 3)), ()).needed, (0, 3))
        self.assertEqual(Mends(((0, 1), (2,)), ()).needed, ())
        self.assertEqual(Mends(((),), ()).needed, ())
        self.assertEqual(Mends((), ()).needed, ())
        self.assertEqual(Mends(((4,),), ()).needed, (4,))

    def test_in_the_order_of_the_pool(self):
        tongue = two_roles()
        pool = [("rule", 0, 1), ("rule", 1, 0)]
        found, spoilers = self.check(tongue, pool, [("clear",), ("safe", (0, 1), 0, 1)])
        self.assertEqual((found.least, spoilers), (((0,), (1,)), ()))
        pool = [("ending", 0, 0, "one", ("q",)), ("wear", (("q", "a"),))]
        found, spoilers = self.check(tongue, pool, [("clear",)])
        self.assertEqual(found.least, ((0,),))
        self.assertEqual([(row.pick, row.added) for row in spoilers], [((0,), 1)])
        found, spoilers = self.check(tongue, pool[::-1], [("clear",)])
        self.assertEqual((found.least, spoilers), (((1,),), ()))

    def test_good_and_bad_again_and_good_again(self):
        """A pick that a change more spoils is good again with yet another one, but then no least one."""
        tongue = two_roles()
        pool = [("ending", 0, 0, "one", ("q",)), ("wear", (("q", "a"),)), ("rule", 1, 0)]
        found, spoilers = self.check(tongue, pool, [("clear",)])
        self.assertEqual(found.least, ((0,), (2,)))
        self.assertEqual([(row.pick, row.added) for row in spoilers], [((0,), 1)])
        self.assertEqual([pick for pick, _ in found.losses], [(), (1,)])

    def test_the_empty_pick(self):
        tongue = two_roles([(0, 1)])
        found = find_mends(tongue, [("strike", 0, 1)], [("clear",)])
        self.assertEqual((found.least, found.losses, found.needed), (((),), (), ()))
        spoilers = find_spoilers(tongue, [("strike", 0, 1)], [("clear",)])
        self.assertEqual([(row.pick, row.added, row.broken.index) for row in spoilers], [((), 0, 0)])

    def test_no_good_pick(self):
        found = find_mends(two_roles(), [("wear", ())], [("orders", 0, 9)])
        self.assertEqual(found, Mends((), (((), Broken(0, 2)), ((0,), Broken(0, 2)))))
        self.assertEqual(find_spoilers(two_roles(), [("wear", ())], [("orders", 0, 9)]), ())

    def test_rules_alone_spoil_nothing(self):
        source = Random(232)
        met = set()
        for tongue, pool, _ in some_benches(80, 233, ("rule",)):
            told = [*tongue.rules, *[row[1:] for row in pool]]
            if pool[0][0] != "rule" or any(a == b for a, b in walk_closure(told)):
                continue
            wishes = [source.choice([("clear",), ("wholly",), ("swallowed", source.randint(0, 5))]) for _ in "abc"]
            self.assertEqual(find_spoilers(tongue, pool, wishes), ())
            met.add(len(find_mends(tongue, pool, wishes).least))
        self.assertTrue(met >= {0, 1})

    def test_errors_in_their_order(self):
        tongue = nesting()
        right = ("rule", 0, 1)
        for call in (find_mends, find_spoilers):
            for pool in ([], (), [right] * 6, [None] * 6, "rule", *STRANGE):
                refuses(self, BadChange, {"index": 0, "what": "pool"}, call, tongue, pool, None)
                refuses(self, BadChange, {"index": 0, "what": "pool"}, call, tongue, pool, [("clear",)])
            refuses(self, BadChange, {"index": 0, "what": "change"}, call, tongue, [None], None)
            refuses(self, BadChange, {"index": 1, "what": "role"}, call, tongue, [right, ("rule", 0, 4)], None)
            refuses(self, BadChange, {"index": 4, "what": "article"}, call, tongue,
                    [right] * 4 + [("article", 0, None)], None)
            for wishes in ([], [("clear",)] * 7, *STRANGE):
                refuses(self, BadWish, {"index": 0}, call, tongue, [right], wishes)
            refuses(self, BadWish, {"index": 1}, call, tongue, [right] * 5, [("clear",), ("orders", 9, 9)])

    def test_nothing_changes(self):
        tongue, pool, wishes = two_roles(), [["rule", 0, 1], ["wear", [["a", "b"]]]], [["clear"], ["counts", [1]]]
        find_mends(tongue, pool, wishes)
        find_spoilers(tongue, pool, wishes)
        self.assertEqual((tongue, pool, wishes), (two_roles(), [["rule", 0, 1], ["wear", [["a", "b"]]]],
                                                  [["clear"], ["counts", [1]]]))


if __name__ == "__main__":
    unittest.main()
