"""[2.13]: all sayings of a frame with the same nouns, and how many there are."""

import copy
import unittest
from itertools import permutations
from random import Random

from looseorder.errors import BadClause, BadNouns, BadSaying, NoFrame
from looseorder.frames import Frame
from looseorder.orderings import count_sayings, sayings_of
from looseorder.sayings import Saying
from looseorder.speaking import plain_saying
from looseorder.stocks import Stock
from looseorder.tongues import Tongue
from support import STRANGE, all_alike, are_tuples, four_stocks, great, nesting, refuses, some_tongues

NOUNS = [("man", 0, "one"), ("dog", 0, "many")]


def made(tongue, frame, nouns, inner=None):
    return list(sayings_of(tongue, frame, nouns, inner))


def some_nouns(tongue, frame, source):
    rows = []
    for at, role in enumerate(tongue.frames[frame].nouns):
        bearing = [s for s, stock in enumerate(tongue.stocks) if role in stock.borne]
        rows.append(("x" + chr(97 + at), source.choice(bearing), source.choice(["one", "many"])))
    return rows


def walk_sayings(tongue, frame, nouns, inner):
    """All rows of the items that Saying lets, by rows of roles and the place of the verb."""
    told = tongue.frames[frame]
    items = [("noun", row[0], row[1], role, row[2]) for role, row in zip(told.nouns, nouns)]
    items += [("verb",)] if inner is None else [("verb",), ("clause", told.clause, inner)]
    found = []
    for row in permutations(items):
        try:
            saying = Saying(tongue, frame, row)
        except BadSaying:
            continue
        roles = [item[3] if item[0] == "noun" else item[1] for item in row if item[0] != "verb"]
        found.append((roles, row.index(("verb",)), saying))
    return [saying for _, _, saying in sorted(found, key=lambda entry: entry[:2])]


class SayingsOfTest(unittest.TestCase):
    def test_two_roles(self):
        tongue = all_alike(2)
        found = made(tongue, 0, NOUNS)
        self.assertTrue(all(type(saying) is Saying for saying in found))
        man, dog = ("noun", "man", 0, 0, "one"), ("noun", "dog", 0, 1, "many")
        self.assertEqual([saying.said for saying in found], [(man, dog, ("verb",)), (dog, man, ("verb",))])
        self.assertEqual([saying.frame for saying in found], [0, 0])
        self.assertTrue(all(saying.tongue == tongue for saying in found))

    def test_free_verbs_stand_at_each_place(self):
        tongue = all_alike(2, [(1, 0)]).with_verbs("free")
        man, dog, verb = ("noun", "man", 0, 0, "one"), ("noun", "dog", 0, 1, "many"), ("verb",)
        self.assertEqual([saying.said for saying in made(tongue, 0, NOUNS)],
                         [(verb, dog, man), (dog, verb, man), (dog, man, verb)])
        self.assertEqual([saying.said for saying in made(tongue.with_verbs("first"), 0, NOUNS)], [(verb, dog, man)])

    def test_against_all_rows_of_items(self):
        source = Random(213)
        for tongue in some_tongues(40, 213) + [nesting("free"), four_stocks([(2, 0)])]:
            without = [at for at, frame in enumerate(tongue.frames) if frame.clause is None][0]
            for frame, told in enumerate(tongue.frames):
                nouns = some_nouns(tongue, frame, source)
                inner = None if told.clause is None else plain_saying(tongue, without)
                found = made(tongue, frame, nouns, inner)
                self.assertEqual(found, walk_sayings(tongue, frame, nouns, inner))
                self.assertEqual(len(found), count_sayings(tongue, frame))
                self.assertTrue(all(are_tuples(saying.said) for saying in found))

    def test_six_slots(self):
        tongue = great()
        nouns = [(stem, 0, "one") for stem in ("p", "q", "p", "r", "q")]
        found = made(tongue, 0, nouns, plain_saying(tongue, 1))
        # Two rules in a row leave a sixth of the 720 rows; the verb has seven places.
        self.assertEqual((len(found), count_sayings(tongue, 0)), (840, 840))
        said = [tuple(saying.said) for saying in found]
        keys = [[-1 if item[0] == "verb" else item[3] if item[0] == "noun" else item[1] for item in row]
                for row in said]
        order = [([role for role in row if role >= 0], row.index(-1)) for row in keys]
        self.assertEqual(order, sorted(order))
        self.assertEqual(len({tuple(row) for row in keys}), 840)

    def test_one_stem_twice_and_inner_stems(self):
        tongue = nesting()
        inner = Saying(tongue, 2, [("noun", "man", 0, 0, "one"), ("verb",)])
        found = made(tongue, 0, [("man", 0, "one"), ("man", 0, "one")], inner)
        self.assertEqual(len(found), 6)
        self.assertTrue(all(saying.inner == inner for saying in found))

    def test_lists_are_let_and_nothing_changes(self):
        tongue = nesting(rules=[(0, 1)])
        nouns = [["a", 0, "one"], ["b", 1, "many"]]
        kept = copy.deepcopy(nouns)
        inner = plain_saying(tongue, 2)
        found = made(tongue, 0, nouns, inner)
        self.assertEqual(nouns, kept)
        nouns[0][0] = "zzz"
        self.assertEqual(found, made(tongue, 0, tuple(tuple(row) for row in kept), inner))
        self.assertEqual(inner, plain_saying(tongue, 2))

    def test_greatest_sayings(self):
        tongue = nesting()
        pair = [("x", 0, "one"), ("y", 0, "one")]
        eleven = plain_saying(tongue, 2)
        for _ in range(3):
            eleven = made(tongue, 0, pair, eleven)[0]
        self.assertEqual(eleven.size, 11)
        self.assertEqual({saying.size for saying in made(tongue, 0, pair, eleven)}, {14})
        twelve = made(tongue, 3, pair[:1], plain_saying(tongue, 1))[0]
        for _ in range(3):
            twelve = made(tongue, 3, pair[:1], twelve)[0]
        self.assertEqual(twelve.size, 12)
        refuses(self, BadClause, {}, made, tongue, 0, pair, twelve)
        self.assertEqual(made(tongue, 3, pair[:1], twelve)[0].size, 14)


class CountTest(unittest.TestCase):
    def test_counts(self):
        for verbs, places in (("first", 1), ("last", 1), ("free", 4)):
            tongue = all_alike(3, [(0, 1)]).with_verbs(verbs)
            self.assertEqual(count_sayings(tongue, 0), 3 * places)
        one = all_alike(1)
        self.assertEqual([count_sayings(one.with_verbs(v), 0) for v in ("first", "last", "free")], [1, 1, 2])
        self.assertEqual([count_sayings(nesting("free"), f) for f in range(4)], [24, 24, 2, 6])

    def test_frame(self):
        for frame in (4, -1, *STRANGE):
            refuses(self, NoFrame, {"frame": frame}, count_sayings, nesting(), frame)
            refuses(self, NoFrame, {"frame": frame}, made, nesting(), frame, None)


class WrongTest(unittest.TestCase):
    def wrong(self, index, what, nouns, tongue=None, frame=0, inner=None):
        told = tongue or all_alike(2)
        refuses(self, BadNouns, {"index": index, "what": what}, made, told, frame, nouns, inner)

    def test_many(self):
        for nouns in (*STRANGE, [], NOUNS[:1], NOUNS * 2, {0: NOUNS[0], 1: NOUNS[1]}, iter(NOUNS)):
            self.wrong(0, "many", nouns)

    def test_each_word(self):
        for thing in (*STRANGE, (), ("a", 0), ("a", 0, "one", 0)):
            self.wrong(0, "row", [thing, NOUNS[1]])
            self.wrong(1, "row", [NOUNS[0], thing])
        for stem in (None, 1, "", "A", "abcdefg", "a b", ["a"], b"a"):
            self.wrong(1, "stem", [NOUNS[0], (stem, 0, "one")])
        self.assertEqual(len(made(all_alike(2), 0, [NOUNS[0], ("abcdef", 0, "one")])), 2)
        for stock in (None, -1, 1, False, "0", 0.0, [0], 10 ** 30):
            self.wrong(1, "stock", [NOUNS[0], ("a", stock, "one")])
        for number in (None, 0, "two", "", ["one"], True):
            self.wrong(1, "number", [NOUNS[0], ("a", 0, number)])

    def test_a_stock_that_does_not_bear_the_role(self):
        tongue = nesting()
        inner = plain_saying(tongue, 2)
        self.wrong(0, "stock", [("a", 1, "one"), ("b", 1, "one")], tongue, 0, inner)
        self.wrong(0, "stock", [("a", True, "one")], tongue, 3, inner)
        self.assertEqual(len(made(tongue, 0, [("a", 0, "one"), ("b", 1, "one")], inner)), 6)

    def test_unlike(self):
        tongue = nesting()
        inner = plain_saying(tongue, 2)
        self.wrong(1, "unlike", [("a", 0, "one"), ("a", 1, "one")], tongue, 0, inner)
        self.wrong(2, "unlike", [("a", 0, "one"), ("b", 1, "one"), ("a", 1, "many")], tongue, 1)
        # The last row is asked of all earlier ones, not only of the one before.
        self.wrong(2, "unlike", [("a", 0, "one"), ("b", 0, "one"), ("b", 1, "many")], tongue, 1)

    def test_two_faults(self):
        self.wrong(0, "row", [None, ("A", 0, "one")])
        self.wrong(0, "number", [("a", 0, "two"), None])
        self.wrong(1, "stem", [NOUNS[0], ("A", 5, "two")])
        self.wrong(1, "stock", [NOUNS[0], ("man", 5, "two")])
        tongue = nesting()
        self.wrong(1, "number", [("a", 0, "one"), ("a", 1, "two")], tongue, 0)
        self.wrong(1, "unlike", [("a", 0, "one"), ("a", 1, "one")], tongue, 0)
        self.wrong(0, "many", [], tongue, 2, plain_saying(tongue, 2))


class ClauseTest(unittest.TestCase):
    def test_none_and_not_none(self):
        tongue = nesting()
        inner = plain_saying(tongue, 2)
        pair = [("x", 0, "one"), ("y", 0, "one")]
        refuses(self, BadClause, {}, made, tongue, 0, pair)
        refuses(self, BadClause, {}, made, tongue, 0, pair, None)
        refuses(self, BadClause, {}, made, tongue, 2, pair[:1], inner)
        for thing in STRANGE:
            refuses(self, BadClause, {}, made, tongue, 0, pair, thing)

    def test_a_saying_of_another_tongue(self):
        tongue = nesting()
        pair = [("x", 0, "one"), ("y", 0, "one")]
        for other in (nesting("free"), nesting(rules=[(0, 3)]), nesting(agreed=0)):
            refuses(self, BadClause, {}, made, tongue, 0, pair, plain_saying(other, 2))
        self.assertEqual(made(tongue, 0, pair, plain_saying(nesting(), 2)),
                         made(tongue, 0, pair, plain_saying(tongue, 2)))

    def test_one_stem_with_two_stocks(self):
        tongue = nesting()
        deep = Saying(tongue, 3, [("noun", "thing", 1, 1, "one"), ("clause", 2, plain_saying(tongue, 2)), ("verb",)])
        for inner in (deep, made(tongue, 3, [("b", 0, "one")], deep)[0]):
            refuses(self, BadClause, {}, made, tongue, 0, [("x", 0, "one"), ("thing", 0, "one")], inner)
            self.assertEqual(len(made(tongue, 0, [("x", 0, "one"), ("thing", 1, "one")], inner)), 6)

    def test_a_frame_that_is_its_clause_alone(self):
        stocks = [Stock("n", [(0, ("a",), ("b",))])]
        tongue = Tongue(["w", "x"], stocks, [Frame("f", [0], 1), Frame("g", [0])], [(1, 0)], "free")
        inner = plain_saying(tongue, 1)
        found = made(tongue, 0, [("x", 0, "one")], inner)
        self.assertEqual([saying.said.index(("verb",)) for saying in found], [0, 1, 2])
        self.assertTrue(all(item[0] != "noun" for saying in found for item in saying.said[:1]))


if __name__ == "__main__":
    unittest.main()
