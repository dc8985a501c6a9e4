"""[7.7], [7.8]: what waits while a row comes, the orders that let the least wait, and the memory needed."""

import unittest
from itertools import permutations, product

from looseorder.blocks import blocks_of, chain_of
from looseorder.errors import BadBlocks, BadDepth, BadHeard, BadSaying, FreeVerbs
from looseorder.frames import Frame
from looseorder.heard import heard_of
from looseorder.nested import chain_of_saying, nest_frames, with_clause
from looseorder.sayings import Saying
from looseorder.speaking import plain_saying, saying_of
from looseorder.stocks import Stock
from looseorder.tongues import Tongue
from looseorder.waiting import growth_of, least_waiting, memory_needed, peak_of, waiting_fault, waiting_of
from support import (STRANGE, VERB, are_tuples, great, grouped, keeps, nesting, refuses, some_tongues, tiny, two_roles,
                     walk_closure, walk_patterns)


def wide(verbs, rules=()):
    """A frame of three nouns and a clause, one of a noun and a clause, and frames of one and four nouns."""
    noun = Stock("n", [(role, ("a",), ("b",)) for role in (0, 1, 2, 4)])
    frames = [Frame("tell", (0, 1, 2), 3), Frame("say", (4,), 3), Frame("go", (0,)), Frame("give", (0, 1, 2, 4))]
    return Tongue(["p", "q", "r", "s", "t"], [noun], frames, rules, verbs)


RULES = ((), [(0, 3)], [(0, 3), (1, 3)], [(3, 0)], [(0, 3), (3, 1)], [(0, 1), (1, 3)], [(4, 3), (0, 3)],
         [(0, 3), (1, 3), (2, 3), (3, 4)], [(2, 1), (1, 0), (0, 3)])


def tongues():
    found = [wide(verbs, rules) for verbs in ("first", "last") for rules in RULES]
    found += [tiny("last", None, [(0, 1)]), tiny("first", None, [(0, 1)]), tiny("last"), two_roles(),
              two_roles((), "first")]
    return found + some_tongues(10, 91, 4, "last") + some_tongues(10, 92, 4, "first")


def pieces_in(thing):
    return [thing] if isinstance(thing, int) else [thing[1], *[place for part in thing[2] for place in pieces_in(part)]]


def walk_waiting(tongue, heard):
    """Each thing waits from where it is told up to where it is taken; with verbs first, from its verb to its coming."""
    block = blocks_of(tongue, heard)
    spells = [(block[1], len(heard))] if tongue.verbs == "last" else [(0, 1)]
    for _, verb, things in chain_of(block):
        for thing in things:
            places = pieces_in(thing)
            spells.append((max(places), verb) if tongue.verbs == "last" else (verb + 1, min(places) + 1))
    return tuple(sum(first <= place < behind for first, behind in spells) for place in range(len(heard)))


class WaitingTest(unittest.TestCase):
    def test_the_example(self):
        noun = Stock("n", [(0, ("a",), ("b",))])
        frames = [Frame("f", (0,), 1), Frame("g", (0,))]
        x = ("noun", "x", 0, ("a",))
        first = Tongue(["r", "s"], [noun], frames, (), "first")
        self.assertEqual(waiting_of(first, [("verb", 0, None), ("verb", 1, None), x, x]), (1, 2, 2, 1))
        last = first.with_verbs("last")
        self.assertEqual(waiting_of(last, [x, x, ("verb", 1, None), ("verb", 0, None)]), (1, 2, 2, 1))
        self.assertEqual(waiting_of(last, [x, ("verb", 1, None), x, ("verb", 0, None)]), (1, 1, 2, 1))
        self.assertEqual(waiting_of(last, [x, ("verb", 1, None)]), (1, 1))

    def test_against_a_walk(self):
        peaks = set()
        for tongue in [tiny("last"), tiny("first"), *tongues()[-20:]]:
            for heard in grouped(tongue, 5):
                found = waiting_of(tongue, list(heard))
                self.assertEqual(found, walk_waiting(tongue, heard))
                self.assertTrue(are_tuples(found))
                self.assertEqual(peak_of(tongue, heard), max(found))
                peaks.add(max(found))
        self.assertTrue(peaks >= {1, 2, 3})

    def test_long_rows(self):
        for tongue in tongues()[:2 * len(RULES)]:
            for frames in ((0, 0, 3), (1, 1, 1, 1, 3), (0, 1, 1, 1, 2), (1, 0, 1, 0, 2)):
                heard = heard_of(nest_frames(tongue, frames))
                self.assertEqual(waiting_of(tongue, heard), walk_waiting(tongue, heard))
        x = ("noun", "x", 0, ("a",))
        heard = [x] * 7 + [("verb", 1, None)] + [("verb", 0, None)] * 6
        self.assertEqual(waiting_of(tiny("last"), heard), (1, 2, 3, 4, 5, 6, 7, 7, 6, 5, 4, 3, 2, 1))
        self.assertEqual(peak_of(tiny("last"), heard), 7)

    def test_errors_in_their_order(self):
        noun = ("noun", "x", 0, ("a",))
        for call in (waiting_of, peak_of):
            for verbs in ("free", "last", "first"):
                for heard in ([], [noun] * 15, *STRANGE):
                    refuses(self, BadHeard, {"index": 0, "what": "many"}, call, tiny(verbs), heard)
                refuses(self, BadHeard, {"index": 1, "what": "stem"}, call, tiny(verbs), [noun, ("noun", "", 0, None)])
            for tongue in (tiny("free"), two_roles((), "free"), great()):
                refuses(self, FreeVerbs, {}, call, tongue, [noun])
                refuses(self, FreeVerbs, {}, call, tongue, [noun, ("verb", 1, None)])
            refuses(self, BadBlocks, {"place": 1}, call, tiny("last"), [noun])
            refuses(self, BadBlocks, {"place": 0}, call, tiny("last"), [("verb", 1, None), noun])
            refuses(self, BadBlocks, {"place": 1}, call, tiny("first"), [noun, ("verb", 1, None)])

    def test_nothing_changes(self):
        heard = [["noun", "x", 0, ["a"]], ["verb", 1, None]]
        self.assertEqual((waiting_of(tiny("last"), heard), peak_of(tiny("last"), heard)), ((1, 1), 1))
        self.assertEqual(heard, [["noun", "x", 0, ["a"]], ["verb", 1, None]])


def reorderings(saying):
    """All sayings with the same nouns in the same clauses, each clause in any order that the closure lets."""
    tongue = saying.tongue
    inners = [None] if saying.inner is None else reorderings(saying.inner)
    items = [item for item in saying.said if item[0] == "noun"]
    found = []
    for inner in inners:
        own = items if inner is None else [*items, ("clause", tongue.frames[saying.frame].clause, inner)]
        for row in permutations(own):
            if keeps(walk_closure(tongue.rules), [item[3] if item[0] == "noun" else item[1] for item in row]):
                found.append(Saying(tongue, saying.frame, [VERB, *row] if tongue.verbs == "first" else [*row, VERB]))
    return found


def some_sayings(tongue):
    """Sayings of one to four clauses, in plain and in other orders."""
    outer = [frame for frame, told in enumerate(tongue.frames) if told.clause is not None]
    inner = [frame for frame, told in enumerate(tongue.frames) if told.clause is None]
    found = []
    for many in (0, 1, 2, 3):
        for frames in list(product(*[outer] * many, inner))[:6]:
            if sum(len(tongue.frames[frame].nouns) + 1 for frame in frames) <= 11:
                saying = nest_frames(tongue, frames)
                found.append(saying)
                if many < 2 and saying.size < 6:
                    found += reorderings(saying)[::5]
    return found


class LeastTest(unittest.TestCase):
    def test_least_of_all_orders(self):
        gains = 0
        for tongue in tongues():
            for saying in some_sayings(tongue):
                if saying.size > 8:
                    continue
                others = reorderings(saying)
                found = least_waiting(saying)
                self.assertIn(found, others)
                peak = min(peak_of(tongue, heard_of(other)) for other in others)
                self.assertEqual(peak_of(tongue, heard_of(found)), peak)
                self.assertIsNone(waiting_fault(saying, found))
                gains += peak < peak_of(tongue, heard_of(saying))
                for other in others[::max(1, len(others) // 12)]:
                    heavy = peak_of(tongue, heard_of(other)) > peak
                    self.assertEqual(waiting_fault(saying, other), "lighter" if heavy else None)
        self.assertGreater(gains, 20)

    def test_each_clause_by_itself(self):
        tongue = wide("last", [(0, 3)])
        inner = saying_of(tongue, 3, walk_patterns(tongue, 3)[0])
        rows = [pattern for pattern in walk_patterns(tongue, 0) if [entry[2] for entry in pattern].count("many") == 0]
        for pattern in rows:
            saying = with_clause(saying_of(tongue, 0, pattern), inner_with_other_stems(inner))
            found = least_waiting(saying)
            self.assertEqual(peak_of(tongue, heard_of(found)), 5)
            self.assertEqual(sorted(found.noun_items()), sorted(saying.noun_items()))

    def test_two_nouns_with_one_stem(self):
        tongue = wide("last")
        items = [("noun", "x", 0, 0, "one"), ("noun", "x", 0, 1, "one"), ("noun", "x", 0, 2, "many")]
        saying = Saying(tongue, 0, [*items, ("clause", 3, plain_saying(tongue, 2)), VERB])
        found = least_waiting(saying)
        self.assertEqual(sorted(item for item in found.said if item[0] == "noun"), sorted(items))
        self.assertIsNone(waiting_fault(saying, found))

    def test_free_verbs(self):
        for tongue in (tiny("free"), two_roles((), "free")):
            saying = plain_saying(tongue, 0)
            refuses(self, FreeVerbs, {}, least_waiting, saying)
            refuses(self, FreeVerbs, {}, waiting_fault, saying, saying)
            refuses(self, FreeVerbs, {}, waiting_fault, saying, plain_saying(tongue, 1))

    def test_nothing_changes(self):
        saying = nest_frames(wide("last"), [0, 1, 2])
        said = saying.said
        least_waiting(saying)
        waiting_fault(saying, saying)
        self.assertEqual(saying.said, said)
        self.assertEqual(saying, nest_frames(wide("last"), [0, 1, 2]))


def inner_with_other_stems(inner):
    items = [("noun", "z" + item[1], *item[2:]) if item[0] == "noun" else item for item in inner.said]
    return Saying(inner.tongue, inner.frame, items)


class FaultTest(unittest.TestCase):
    """The tongue says a noun and a clause; a saying of three clauses."""

    def setUp(self):
        self.tongue = wide("last")
        self.saying = self.built([("p", 0), ("q", 1), ("r", 2)], [("s", 4)], [("t", 0)])

    def built(self, outer, middle, inner, frames=(0, 1, 2), verbs=None):
        """Clauses whose clause stands last, from (stem, role) and perhaps a number."""
        saying = None
        for frame, nouns in reversed(list(zip(frames, (outer, middle, inner)))):
            items = [("noun", noun[0], 0, noun[1], noun[2] if len(noun) > 2 else "one") for noun in nouns]
            items += [] if saying is None else [("clause", 3, saying)]
            saying = Saying(self.tongue, frame, [*items, VERB])
        return saying

    def test_lighter(self):
        self.assertEqual(waiting_fault(self.saying, self.saying), "lighter")
        best = least_waiting(self.saying)
        self.assertIsNone(waiting_fault(self.saying, best))
        self.assertEqual(peak_of(self.tongue, heard_of(best)), 4)

    def test_words(self):
        o, m, i = [("p", 0), ("q", 1), ("r", 2)], [("s", 4)], [("t", 0)]
        four = [("t", 0), ("u", 1), ("v", 2), ("w", 4)]
        others = [self.built([("x", 0), *o[1:]], m, i), self.built([("p", 1), ("q", 0), ("r", 2)], m, i),
                  self.built([("p", 0, "many"), *o[1:]], m, i), self.built(o, [("t", 4)], [("s", 0)]),
                  self.built(o, m, four, (0, 1, 3)), self.built(o, m, [("t", 0, "many")]),
                  self.built(o, [("x", 4)], i), self.saying.inner, self.saying.inner.inner,
                  self.built(m, o, i, (1, 0, 2)), self.built([("s", 0), *o[1:]], [("p", 4)], i)]
        for other in others:
            self.assertEqual(waiting_fault(self.saying, other), "words")
            self.assertEqual(waiting_fault(least_waiting(self.saying), other), "words")
            # Other words are told ahead of a peak that is too great, and of one that is small enough.
            self.assertEqual(waiting_fault(self.saying, least_waiting(other)), "words")
            self.assertEqual(waiting_fault(other, self.saying), "words")

    def test_frames_with_the_same_roles(self):
        noun = Stock("n", [(0, ("a",), ("b",))])
        tongue = Tongue(["p", "q"], [noun], [Frame("go", (0,)), Frame("run", (0,)), Frame("say", (0,), 1),
                                             Frame("ask", (0,), 1)])
        items = [("noun", "x", 0, 0, "one"), VERB]
        go, run = Saying(tongue, 0, items), Saying(tongue, 1, items)
        self.assertEqual((waiting_fault(go, run), waiting_fault(run, go)), ("words", "words"))
        say, ask = [Saying(tongue, frame, [("clause", 1, go), ("noun", "y", 0, 0, "one"), VERB]) for frame in (2, 3)]
        self.assertEqual((waiting_fault(say, ask), waiting_fault(say, say)), ("words", None))
        self.assertEqual(waiting_fault(say, with_clause(say, run)), "words")

    def test_each_as_often(self):
        one = self.built([("p", 0), ("p", 1), ("r", 2)], [("s", 4)], [("t", 0)])
        other = self.built([("p", 0), ("r", 1), ("r", 2)], [("s", 4)], [("t", 0)])
        self.assertEqual(waiting_fault(one, other), "words")

    def test_a_longer_chain(self):
        inner = plain_saying(self.tongue, 2)
        shorter = Saying(self.tongue, 1, [("noun", "s", 0, 4, "one"), ("clause", 3, inner), VERB])
        longer = Saying(self.tongue, 1, [("noun", "s", 0, 4, "one"), ("clause", 3, shorter), VERB])
        self.assertEqual(waiting_fault(shorter, longer), "words")
        self.assertEqual(waiting_fault(longer, shorter), "words")


class MemoryTest(unittest.TestCase):
    def walk(self, tongue, depth):
        """The greatest least peak of all rows of frames, or None if there are none; False if some are too long."""
        outer = [frame for frame, told in enumerate(tongue.frames) if told.clause is not None]
        inner = [frame for frame, told in enumerate(tongue.frames) if told.clause is None]
        peaks = []
        for frames in product(*[outer] * (depth - 1), inner):
            if sum(len(tongue.frames[frame].nouns) + 1 for frame in frames) > 14:
                return False
            peaks.append(peak_of(tongue, heard_of(least_waiting(nest_frames(tongue, frames)))))
        return max(peaks) if peaks else None

    def test_against_all_frames(self):
        met = set()
        for tongue in tongues():
            for depth in range(1, 8):
                found = self.walk(tongue, depth)
                if found is not False:
                    self.assertEqual(memory_needed(tongue, depth), found)
                    met.add((depth, found))
        self.assertTrue(met >= {(1, 1), (2, None), (3, 4), (6, 2), (6, 7)})

    def test_growth(self):
        growths = set()
        for tongue in tongues():
            outer = [frame for frame in tongue.frames if frame.clause is not None]
            closure = walk_closure(tongue.rules)
            if not outer:
                self.assertIsNone(growth_of(tongue))
                self.assertIsNone(memory_needed(tongue, 2))
                self.assertIsNone(memory_needed(tongue, 40))
                continue
            way = 1 if tongue.verbs == "last" else -1
            growth = max(sum((role, frame.clause)[::way] in closure for role in frame.nouns) for frame in outer)
            self.assertEqual(growth_of(tongue), growth)
            for depth in range(2, 40):
                self.assertEqual(memory_needed(tongue, depth + 1) - memory_needed(tongue, depth), growth)
            growths.add(growth)
        self.assertTrue(growths >= {0, 1, 2, 3})

    def test_known_numbers(self):
        for verbs, rules in (("last", [(0, 3), (1, 3)]), ("first", [(3, 0), (3, 1)])):
            tongue = wide(verbs, rules)
            # Two nouns wait, and behind them four of the innermost clause.
            self.assertEqual([memory_needed(tongue, depth) for depth in (1, 2, 3, 4, 40)], [4, 6, 8, 10, 82])
            self.assertEqual(growth_of(tongue), 2)
        self.assertEqual([memory_needed(wide("last"), depth) for depth in (1, 2, 40)], [4, 4, 4])
        # A frame with a clause can need more than any clause within it.
        small = Tongue(["p", "q", "r"], [Stock("n", [(0, ("a",), ("b",)), (1, ("c",), ("d",))])],
                       [Frame("go", (0,)), Frame("tell", (0, 1), 2)])
        self.assertEqual([memory_needed(small, depth) for depth in (1, 2, 3)], [1, 3, 3])

    def test_errors_in_their_order(self):
        for depth in (0, -1, 41, 10 ** 40, "1", *STRANGE):
            refuses(self, BadDepth, {}, memory_needed, tiny("free"), depth)
            refuses(self, BadDepth, {}, memory_needed, tiny("last"), depth)
        for tongue in (tiny("free"), two_roles((), "free")):
            for depth in (1, 2, 40):
                refuses(self, FreeVerbs, {}, memory_needed, tongue, depth)
            refuses(self, FreeVerbs, {}, growth_of, tongue)

    def test_sayings_cannot_be_longer(self):
        """Memory is told for sayings that are too long to be made."""
        tongue = wide("last")
        refuses(self, BadSaying, {"place": 3, "what": "rule"}, Saying, wide("last", [(3, 0)]), 0,
                [("noun", "p", 0, 0, "one"), ("noun", "q", 0, 1, "one"), ("noun", "r", 0, 2, "one"),
                 ("clause", 3, plain_saying(wide("last", [(3, 0)]), 2)), VERB])
        self.assertEqual(len(chain_of_saying(nest_frames(tongue, [0, 0, 3]))), 3)
        self.assertEqual(memory_needed(tongue, 40), 4)

    def test_nothing_changes(self):
        tongue = nesting()
        memory_needed(tongue, 5)
        growth_of(tongue)
        self.assertEqual(tongue, nesting())


if __name__ == "__main__":
    unittest.main()
