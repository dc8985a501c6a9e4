"""[7.6], [7.9], [7.10]: outlines of sayings, mirrored tongues, and free verbs that leave clauses in doubt."""

import unittest
from itertools import product

from looseorder.coincide import first_exchange
from looseorder.errors import BadDepth, FreeClauses, NotFree
from looseorder.frames import Frame
from looseorder.heard import check_heard, depths_of, heard_of, roles_heard, swallow
from looseorder.longsayings import all_outlines, count_outlines, free_pattern, mirrored_saying, mirrored_tongue
from looseorder.nested import chain_of_saying
from looseorder.orders import how_many_orders, orders_of
from looseorder.readings import readings_of
from looseorder.sayings import Saying
from looseorder.stocks import Stock
from looseorder.tongues import Tongue
from looseorder.waiting import waiting_of
from support import (NUMBERS, STRANGE, are_tuples, four_stocks, great, grouped, nesting, refuses, some_tongues,
                     table_of, tiny, two_roles, walk_closure, walk_sayings)


def outline(heard):
    return tuple(None if piece[0] == "noun" else piece[1] for piece in heard)


def wide(verbs, rules=()):
    """Frames of one to three nouns, two of them with a clause."""
    noun = Stock("n", [(role, ("a",), ("b",)) for role in (0, 1, 3, 4)])
    frames = [Frame("go", (0,)), Frame("tell", (0, 1, 4), 2), Frame("say", (3,), 2), Frame("see", (0, 1))]
    return Tongue(["p", "q", "r", "s", "t"], [noun], frames, rules, verbs)


RULES = ((), [(0, 2)], [(2, 0), (1, 2)], [(0, 1), (1, 2)], [(2, 3), (3, 4)], [(0, 2), (1, 2), (4, 2)])


def is_free_with_clauses(tongue):
    return tongue.verbs == "free" and any(frame.clause is not None for frame in tongue.frames)


class OutlineTest(unittest.TestCase):
    def by_depth(self, sayings):
        """The outlines of the sayings of each depth, in the order told: by frames, then by places."""
        found = {}
        for saying in sayings:
            chain = chain_of_saying(saying)
            frames = [told.frame for told in chain]
            places = [[item[0] for item in told.said if item[0] != "verb"].index("clause") for told in chain[:-1]]
            if saying.tongue.verbs == "free":
                places = [saying.said.index(("verb",))]
            found.setdefault(saying.depth, set()).add((tuple(frames), tuple(places), outline(heard_of(saying))))
        return {depth: [row[2] for row in sorted(lot)] for depth, lot in found.items()}

    def test_against_all_sayings(self):
        small = [tiny(verbs, None, rules) for verbs in ("first", "last") for rules in ((), [(0, 1)], [(1, 0)])]
        for tongue, most in [(told, 7) for told in small] + [(told, 5) for told in some_tongues(40, 101, 3)]:
            if is_free_with_clauses(tongue):
                continue
            nouns = [max(len(frame.nouns) for frame in tongue.frames if (frame.clause is None) == told) + 1
                     if any((frame.clause is None) == told for frame in tongue.frames) else 0 for told in (True, False)]
            found = self.by_depth(walk_sayings(tongue, most))
            for depth in (1, 2, 3):
                if nouns[0] + nouns[1] * (depth - 1) <= most:
                    self.assertEqual(list(all_outlines(tongue, depth)), found.get(depth, []))
                    self.assertEqual(count_outlines(tongue, depth), len(found.get(depth, [])))

    def test_count_is_that_of_the_walk(self):
        for verbs in ("first", "last"):
            for rules in RULES:
                tongue = wide(verbs, rules)
                for depth in (1, 2, 3):
                    rows = list(all_outlines(tongue, depth))
                    self.assertTrue(are_tuples(tuple(rows)))
                    self.assertEqual(len(set(rows)), len(rows))
                    self.assertEqual(count_outlines(tongue, depth), len(rows))
                for depth in (1, 2, 5, 40):
                    self.assertEqual(count_outlines(tongue, depth), self.number(tongue, depth))

    def number(self, tongue, depth):
        """By the words: frames without a clause, times the places of the others to the power of depth less 1."""
        closure = walk_closure(tongue.rules)
        beside = [[role for role in frame.nouns if (role, 2) not in closure and (2, role) not in closure]
                  for frame in tongue.frames if frame.clause is not None]
        return sum(frame.clause is None for frame in tongue.frames) * sum(1 + len(lot) for lot in beside) ** (depth - 1)

    def test_which_and_in_which_order(self):
        tongue = wide("last", [(0, 2)])
        n = None
        self.assertEqual(list(all_outlines(tongue, 1)), [(n, 0), (n, n, 3)])
        self.assertEqual(list(all_outlines(tongue, 2)), [
            (n, n, 0, n, n, 1), (n, n, n, 0, n, 1), (n, n, n, n, 0, 1),
            (n, n, n, 3, n, n, 1), (n, n, n, n, 3, n, 1), (n, n, n, n, n, 3, 1),
            (n, 0, n, 2), (n, n, 0, 2), (n, n, 3, n, 2), (n, n, n, 3, 2)])
        tongue = wide("first", [(0, 2)])
        self.assertEqual(list(all_outlines(tongue, 2))[:3], [(1, n, 0, n, n, n), (1, n, n, 0, n, n),
                                                             (1, n, n, n, 0, n)])

    def test_free(self):
        tongue = four_stocks().with_verbs("last")
        frames = [frame for frame in tongue.frames if frame.clause is None]
        free = Tongue(tongue.roles, tongue.stocks, frames, (), "free")
        n = None
        self.assertEqual(list(all_outlines(free, 1)), [
            (0, n, n, n), (n, 0, n, n), (n, n, 0, n), (n, n, n, 0), (1, n, n), (n, 1, n), (n, n, 1), (2, n), (n, 2)])
        self.assertEqual(count_outlines(free, 1), 9)
        for depth in (2, 3):
            self.assertEqual(list(all_outlines(free, depth)), [])
        for depth in (2, 3, 4, 40):
            self.assertEqual(count_outlines(free, depth), 0)

    def test_no_clause(self):
        for verbs in ("first", "last"):
            self.assertEqual(count_outlines(two_roles((), verbs), 1), 2)
            self.assertEqual(count_outlines(two_roles((), verbs), 2), 0)
            self.assertEqual(list(all_outlines(two_roles((), verbs), 3)), [])

    def test_errors_in_their_order(self):
        for depth in (0, -1, 41, 10 ** 40, "1", *STRANGE):
            for tongue in (tiny("free"), tiny("last")):
                refuses(self, BadDepth, {}, count_outlines, tongue, depth)
        for depth in (0, -1, 4, 40, 41, "1", *STRANGE):
            for tongue in (tiny("free"), tiny("last")):
                refuses(self, BadDepth, {}, lambda told, deep: list(all_outlines(told, deep)), tongue, depth)
        for depth in (1, 3):
            refuses(self, FreeClauses, {}, count_outlines, tiny("free"), depth)
            refuses(self, FreeClauses, {}, lambda deep: list(all_outlines(great(), deep)), depth)
        refuses(self, FreeClauses, {}, count_outlines, tiny("free"), 40)


class MirrorTest(unittest.TestCase):
    def tongues(self):
        return [tiny("first", 0, [(0, 1)]), tiny("last"), tiny("free", None, [(1, 0)]), *some_tongues(20, 103, 3)]

    def test_tongue(self):
        turned = {"first": "last", "last": "first", "free": "free"}
        for tongue in [*self.tongues(), great(), nesting(rules=[(0, 1), (1, 3)])]:
            found = mirrored_tongue(tongue)
            self.assertEqual((found.roles, found.stocks, found.frames), (tongue.roles, tongue.stocks, tongue.frames))
            self.assertEqual(found.rules, tuple(sorted((m, r) for r, m in tongue.rules)))
            self.assertEqual(found.verbs, turned[tongue.verbs])
            self.assertEqual(mirrored_tongue(found), tongue)
            self.assertEqual(first_exchange(found) is None, first_exchange(tongue) is None)
            for frame in range(len(tongue.frames)):
                self.assertEqual(how_many_orders(found, frame), how_many_orders(tongue, frame))
                self.assertEqual({order[::-1] for order in orders_of(found, frame)}, set(orders_of(tongue, frame)))

    def test_sayings_and_their_readings(self):
        for tongue in self.tongues():
            mirror = mirrored_tongue(tongue)
            rows = grouped(tongue, 4)
            for heard, sayings in rows.items():
                for saying in sayings:
                    found = mirrored_saying(saying)
                    self.assertEqual((found.tongue, found.frame), (mirror, saying.frame))
                    self.assertEqual(heard_of(found), heard[::-1])
                    self.assertEqual(roles_heard(found), roles_heard(saying)[::-1])
                    self.assertEqual(depths_of(found), depths_of(saying)[::-1])
                    self.assertEqual(mirrored_saying(found), saying)
                for told in (heard, swallow(heard, [heard.index(piece) for piece in heard if piece[0] == "noun"][:1])):
                    readings = list(readings_of(mirror, check_heard(mirror, told[::-1])))
                    mirrored = [mirrored_saying(saying) for saying in readings_of(tongue, told)]
                    self.assertEqual(len(readings), len(mirrored))
                    self.assertTrue(all(saying in readings for saying in mirrored))
                if tongue.verbs != "free":
                    self.assertEqual(waiting_of(mirror, heard[::-1]), waiting_of(tongue, heard)[::-1])

    def test_items(self):
        tongue = tiny("last", None, [(0, 1)])
        inner = Saying(tongue, 2, [("noun", "x", 0, 0, "one"), ("noun", "y", 0, 2, "many"), ("verb",)])
        saying = Saying(tongue, 0, [("noun", "z", 0, 0, "one"), ("clause", 1, inner), ("verb",)])
        said = saying.said
        found = mirrored_saying(saying)
        self.assertEqual([item[:2] for item in found.said], [("verb",), ("clause", 1), ("noun", "z")])
        self.assertEqual(found.inner.said, (("verb",), ("noun", "y", 0, 2, "many"), ("noun", "x", 0, 0, "one")))
        self.assertIs(saying.said, said)


def loose(rules=(), stocks=None, frames=None, verbs="free"):
    """Frame 0: noun role 0 and clause role 1. Frame 1: noun roles 2 and 3."""
    told = stocks or [Stock("n", [(0, ("a",), ("b",)), (2, ("c",), ("b",)), (3, ("d",), ("e",))])]
    return Tongue(["p", "q", "r", "s"], told, frames or [Frame("say", (0,), 1), Frame("see", (2, 3))], rules, verbs)


class FreePatternTest(unittest.TestCase):
    def walk(self, tongue):
        """Whether there are two frames, two roles and a stock as [7.10] tells."""
        closure = walk_closure(tongue.rules)

        def beside(a, b):
            return a != b and (a, b) not in closure and (b, a) not in closure

        for outer, inner in product(tongue.frames, tongue.frames):
            if outer.clause is None or inner.clause is not None:
                continue
            for r, t in product(outer.nouns, inner.nouns):
                if beside(r, outer.clause) and all(beside(t, other) for other in inner.nouns if other != t):
                    tables = [table_of(tongue, stock) for stock in range(len(tongue.stocks))]
                    if any((r, n) in told and (t, m) in told and told[r, n] == told[t, m]
                           for told in tables for n in NUMBERS for m in NUMBERS):
                        return True
        return False

    def check(self, tongue):
        found = free_pattern(tongue)
        self.assertEqual(found is not None, self.walk(tongue))
        if found is None:
            return False
        self.assertIsInstance(found, tuple)
        one, other = found
        for saying in found:
            self.assertEqual((type(saying), saying.tongue), (Saying, tongue))
            self.assertIsNotNone(saying.inner)
        self.assertEqual((one.frame, one.inner.frame), (other.frame, other.inner.frame))
        heard = heard_of(one)
        self.assertEqual(heard, heard_of(other))
        self.assertEqual(heard, check_heard(tongue, heard))
        unlike = [at for at, (a, b) in enumerate(zip(depths_of(one), depths_of(other))) if a != b]
        self.assertEqual(len(unlike), 2)
        verb = [at for at, piece in enumerate(heard) if piece[0] == "verb" and depths_of(one)[at] == 1]
        self.assertEqual(verb, [at for at, piece in enumerate(heard) if piece[0] == "verb"
                                and depths_of(other)[at] == 1])
        self.assertLess(unlike[0], verb[0])
        self.assertLess(verb[0], unlike[1])
        for saying in found:
            self.assertEqual(sorted(depths_of(saying)[at] for at in unlike), [0, 1])
            self.assertTrue(all(heard[at][0] == "noun" for at in unlike))
        return True

    def test_exactly_if_there_are_such(self):
        kinds = [self.check(tongue) for tongue in some_tongues(150, 105, 4, "free")]
        self.assertTrue(kinds.count(True) > 20 and kinds.count(False) > 20)

    def test_readings_part_the_clauses(self):
        for tongue in some_tongues(40, 106, 3, "free"):
            if self.walk(tongue):
                one, other = free_pattern(tongue)
                if one.size <= 6:
                    found = list(readings_of(tongue, heard_of(one)))
                    self.assertIn(one, found)
                    self.assertIn(other, found)

    def test_each_condition(self):
        self.assertTrue(self.check(loose()))
        alike = Stock("n", [(0, ("a",), ("a",)), (2, ("a",), ("b",)), (3, ("a",), ("a",))])
        self.assertFalse(self.check(loose([(2, 0), (0, 3)], [alike])))
        for rules in ([(0, 1)], [(1, 0)], [(2, 3)], [(3, 2)], [(0, 2), (2, 1)]):
            self.assertFalse(self.check(loose(rules)))
        for rules in ([(0, 2)], [(2, 0)], [(1, 2)], [(0, 2), (0, 3)]):
            self.assertTrue(self.check(loose(rules)))
        # No ending is shared by the two roles, or just by two stocks.
        unlike = Stock("n", [(0, ("a",), ("b",)), (2, ("c",), ("d",)), (3, ("e",), ("f",))])
        self.assertFalse(self.check(loose((), [unlike])))
        self.assertFalse(self.check(loose((), [Stock("n", [(0, ("a",), ("b",)), (2, ("c",), ("d",))]),
                                               Stock("m", [(2, ("a",), ("b",)), (3, ("a",), ("b",))])])))
        # One role for both: any stock that bears it.
        frames = [Frame("say", (0,), 1), Frame("go", (0,))]
        self.assertTrue(self.check(loose((), None, frames)))
        self.assertFalse(self.check(loose([(0, 1)], None, frames)))
        frames = [Frame("say", (0,), 1, 0), Frame("see", (0, 2, 3), None, 0), Frame("go", (2,), None, 2)]
        self.assertTrue(self.check(loose([(2, 3)], None, frames)))
        # No frame has a clause, or no other frame is without one that has such a role.
        self.assertFalse(self.check(two_roles((), "free")))
        self.assertTrue(self.check(great()) == self.walk(great()))

    def test_agreed_roles(self):
        for agreed in (None, 0):
            for mate in (None, 2, 3):
                frames = [Frame("say", (0,), 1, agreed), Frame("see", (2, 3), None, mate)]
                self.assertTrue(self.check(loose((), None, frames)))

    def test_long_frames(self):
        noun = Stock("n", [(role, ("a",), ("a",)) for role in range(6)])
        frames = [Frame("f", (0, 1, 2, 3, 4), 5), Frame("g", (0, 1, 2, 3, 4))]
        for rules in ((), [(0, 1), (1, 2), (2, 3)], [(0, 5), (1, 5), (5, 3)]):
            tongue = Tongue(list("abcdef"), [noun], frames, rules, "free")
            self.assertTrue(self.check(tongue))
            self.assertEqual(free_pattern(tongue)[0].size, 12)

    def test_not_free(self):
        for verbs in ("first", "last"):
            for tongue in (loose(verbs=verbs), two_roles((), verbs)):
                refuses(self, NotFree, {}, free_pattern, tongue)

    def test_nothing_changes(self):
        tongue = loose()
        free_pattern(tongue)
        self.assertEqual(tongue, loose())


if __name__ == "__main__":
    unittest.main()
