"""[7.4], [7.5]: readings of clauses within clauses, and sayings with other clauses within."""

import unittest
from itertools import combinations, product

from looseorder.blocks import blocks_of, chain_of
from looseorder.coincide import first_exchange
from looseorder.errors import (BadBlocks, BadDepth, BadHeard, BadNest, BadSaying, FreeClauses, NoClause)
from looseorder.frames import Frame
from looseorder.heard import depths_of, heard_of, roles_heard, swallow
from looseorder.nested import (chain_of_saying, count_nested, most_nested, nest_frames, things_of, unsure_depths,
                               with_clause)
from looseorder.patterns import plain_pattern
from looseorder.readings import readings_of
from looseorder.sayings import Saying
from looseorder.speaking import pattern_of, plain_saying
from looseorder.stocks import Stock
from looseorder.tongues import Tongue
from support import (STRANGE, VERB, are_tuples, great, grouped, matching, nesting, refuses, roles_in, some_tongues,
                     tiny, two_roles, walk_is_clear, walk_sayings, walk_shown)


def tongues():
    """Tongues whose rows have one shape."""
    found = [tiny(verbs, *more) for verbs in ("first", "last")
             for more in ((), (0, [(1, 0)]), (None, [(0, 1), (1, 2)]))]
    found += some_tongues(12, 81, 3, "last") + some_tongues(12, 82, 3, "first") + some_tongues(16, 83, 3, "free")
    found += [two_roles((), "free"), two_roles([(0, 1)])]
    return [tongue for tongue in found if not is_free_with_clauses(tongue)]


def is_free_with_clauses(tongue):
    return tongue.verbs == "free" and any(frame.clause is not None for frame in tongue.frames)


def chain(saying):
    return [saying] + (chain(saying.inner) if saying.inner is not None else [])


def role_choices(sayings):
    return {(roles_heard(saying), depths_of(saying)) for saying in sayings}


def doubling():
    """Two roles shown alike with a clause and without, so each clause has two rows of roles."""
    noun = Stock("n", [(0, ("a",), ("b",)), (1, ("a",), ("c",)), (3, ("d",), ("d",))])
    frames = [Frame("tell", (0, 1), 2), Frame("see", (0, 1)), Frame("say", (0,), 2)]
    return Tongue(["who", "whom", "what", "far"], [noun], frames)


class ReadingTest(unittest.TestCase):
    def test_count_and_things_and_unsure_depths(self):
        unsure = set()
        for tongue, most in [(tongue, 5) for tongue in tongues()] + [(doubling(), 6)]:
            for heard, sayings in grouped(tongue, most).items():
                self.check(tongue, heard, sayings)
                unsure.add(unsure_depths(tongue, heard))
        self.assertTrue(unsure >= {(), (0,), (1,), (0, 1)})

    def check(self, tongue, heard, sayings):
        self.assertEqual(count_nested(tongue, heard), len(sayings))
        blocks = chain_of(blocks_of(tongue, heard))
        rows = []
        for depth, block in enumerate(blocks):
            clauses = [chain(saying)[depth] for saying in sayings]
            rows.append({roles_in(pattern_of(clause)) for clause in clauses})
            for clause in clauses:
                shown = walk_shown(tongue, clause.frame, pattern_of(clause))
                self.assertEqual(things_of(tongue, list(heard), block), shown)
            self.assertTrue(are_tuples(things_of(tongue, heard, block)))
        self.assertEqual(unsure_depths(tongue, heard), tuple(at for at, lot in enumerate(rows) if len(lot) > 1))
        # The readings are the choices of one reading for each block, so their roles multiply.
        many = 1
        for lot in rows:
            many *= len(lot)
        self.assertEqual(len(role_choices(sayings)), many)

    def test_swallowed(self):
        for tongue in tongues()[::3]:
            rows = grouped(tongue, 5)
            for heard in list(rows)[::3]:
                nouns = [place for place, piece in enumerate(heard) if piece[0] == "noun"]
                for places in [lot for size in (1, 2) for lot in combinations(nouns, size)]:
                    hidden = swallow(heard, places)
                    found = matching(rows, hidden)
                    self.assertEqual(count_nested(tongue, hidden), len(found))
                    depths = {depth for depth in range(len(chain(found[0])))
                              if len({roles_in(pattern_of(chain(saying)[depth])) for saying in found}) > 1}
                    self.assertEqual(unsure_depths(tongue, hidden), tuple(sorted(depths)))

    def test_endings_that_no_stock_has(self):
        tongue = tiny("last")
        heard = [("noun", "x", 0, ("zz",)), ("verb", 1, None)]
        self.assertEqual(things_of(tongue, heard, (1, 1, (0,))), (((0, ("zz",)),), None))
        self.assertEqual((count_nested(tongue, heard), unsure_depths(tongue, heard)), (0, ()))
        # A clause without a reading leaves none, though the one around it has two rows of roles.
        tongue = doubling()
        n = ("noun", "x", 0, ("a",))
        heard = [n, n, ("noun", "y", 0, ("z",)), ("noun", "z", 0, ("a",)), ("verb", 1, None), ("verb", 0, None)]
        self.assertEqual((count_nested(tongue, heard), unsure_depths(tongue, heard)), (0, (0,)))

    def test_alike_in_other_roles_exactly_if_unclear(self):
        kinds = set()
        for tongue in tongues():
            clear = all(walk_is_clear(tongue, frame) for frame in range(len(tongue.frames)))
            most = max(len(frame.nouns) + 1 for frame in tongue.frames) + 3
            if most > 6:
                continue
            doubtful = any(len(role_choices(sayings)) > 1 for sayings in grouped(tongue, most).values())
            self.assertEqual(doubtful, not clear)
            self.assertEqual(first_exchange(tongue) is None, clear)
            kinds.add(clear)
        self.assertEqual(kinds, {True, False})

    def test_great_products(self):
        tongue = doubling()
        n = ("noun", "x", 0, ("a",))
        heard = [n] * 8 + [n, n] + [("verb", 1, None)] + [("verb", 0, None)] * 4
        self.assertEqual(len(heard), 15)
        self.assertEqual(count_nested(tongue, heard[2:-1]), 2 ** 4)
        self.assertEqual(unsure_depths(tongue, heard[2:-1]), (0, 1, 2, 3))
        self.assertEqual(len(list(readings_of(tongue, heard[2:-1]))), 2 ** 4)
        mixed = [n] * 3 + [n, n] + [("verb", 1, None), ("verb", 2, None), ("verb", 0, None)]
        self.assertEqual(unsure_depths(tongue, mixed), (0, 2))

    def test_errors_in_their_order(self):
        noun = ("noun", "x", 0, ("a",))
        free = tiny("free")
        for call in (count_nested, unsure_depths, lambda told, heard: things_of(told, heard, (1, 1, (0,)))):
            for heard in ([], [noun] * 15, *STRANGE):
                refuses(self, BadHeard, {"index": 0, "what": "many"}, call, free, heard)
            bad = [noun, ("verb", 1, "one"), noun]
            refuses(self, BadHeard, {"index": 1, "what": "number"}, call, free, bad)
            refuses(self, BadHeard, {"index": 1, "what": "number"}, call, tiny("last"), bad)
            refuses(self, FreeClauses, {}, call, free, [noun, ("verb", 1, None)])
            refuses(self, FreeClauses, {}, call, free, [noun])
            refuses(self, BadBlocks, {"place": 1}, call, tiny("last"), [noun])
            refuses(self, BadBlocks, {"place": 0}, call, tiny("last"), [("verb", 1, None), noun])

    def test_nothing_changes(self):
        tongue = tiny("last")
        heard = [["noun", "x", 0, ["a"]], ["verb", 1, None]]
        self.assertEqual(things_of(tongue, heard, (1, 1, (0,))), (((0, ("a",)),), None))
        self.assertEqual((count_nested(tongue, heard), unsure_depths(tongue, heard)), (1, ()))
        self.assertEqual(heard, [["noun", "x", 0, ["a"]], ["verb", 1, None]])


class MostTest(unittest.TestCase):
    def test_against_all_sayings(self):
        found = set()
        for tongue in [*tongues(), doubling()]:
            for depth in (1, 2):
                if max(len(frame.nouns) for frame in tongue.frames) > 2:
                    continue
                many = [len(role_choices(sayings)) for sayings in grouped(tongue, 3 * depth).values()
                        if sayings[0].depth == depth]
                self.assertEqual(most_nested(tongue, depth), max(many) if many else None)
                found.add((depth, most_nested(tongue, depth)))
        self.assertTrue(found >= {(1, 1), (1, 2), (2, None), (2, 1), (2, 2), (2, 4)})

    def test_greater_depths(self):
        tongue = doubling()
        self.assertEqual([most_nested(tongue, depth) for depth in (1, 2, 3, 4)], [2, 4, 8, 16])
        self.assertEqual(most_nested(tongue, 40), 2 ** 40)
        # Only the frame without a clause is in doubt: the doubt is bounded over all depths.
        noun = Stock("n", doubling().stocks[0].table[:2])
        bounded = Tongue(["who", "whom", "what"], [noun], [Frame("see", (0, 1)), Frame("say", (0,), 2)])
        self.assertEqual([most_nested(bounded, depth) for depth in (1, 2, 40)], [2, 2, 2])
        # Only the frame with a clause is in doubt.
        outer = Tongue(["who", "whom", "what"], bounded.stocks, [Frame("go", (0,)), Frame("tell", (0, 1), 2)])
        self.assertEqual([most_nested(outer, depth) for depth in (1, 2, 3, 40)], [1, 2, 4, 2 ** 39])

    def test_the_heard_number_counts(self):
        noun = Stock("n", [(0, ("a",), ("b",)), (1, ("a",), ("c",))])
        for agreed, many in ((None, 2), (0, 2)):
            frames = [Frame("see", (0, 1), None, agreed), Frame("say", (0,), 2)]
            tongue = Tongue(["who", "whom", "what"], [noun], frames)
            self.assertEqual(most_nested(tongue, 3), many)
        noun = Stock("n", [(0, ("a",), ("b",)), (1, ("b",), ("a",))])
        tongue = Tongue(["who", "whom"], [noun], [Frame("see", (0, 1), None, 0)])
        self.assertEqual(most_nested(tongue, 1), max(len(role_choices(lot)) for lot in grouped(tongue, 3).values()))

    def test_no_such_saying(self):
        for verbs in ("first", "last", "free"):
            tongue = two_roles((), verbs)
            self.assertEqual(most_nested(tongue, 1), 2)
            for depth in (2, 3, 40):
                self.assertIsNone(most_nested(tongue, depth))

    def test_errors_in_their_order(self):
        for depth in (0, -1, 41, 10 ** 40, "1", *STRANGE):
            refuses(self, BadDepth, {}, most_nested, tiny("free"), depth)
            refuses(self, BadDepth, {}, most_nested, tiny("last"), depth)
        for depth in (1, 2, 40):
            refuses(self, FreeClauses, {}, most_nested, tiny("free"), depth)

    def test_nothing_changes(self):
        tongue = doubling()
        most_nested(tongue, 3)
        self.assertEqual(tongue, doubling())


class ClauseTest(unittest.TestCase):
    def all_with_clause(self, tongue, most):
        return [saying for saying in walk_sayings(tongue, most) if saying.inner is not None]

    def test_with_clause(self):
        for tongue in (tiny("last"), tiny("first", 0), tiny("free", None, [(1, 0)]), nesting("free", 1)):
            outers = self.all_with_clause(tongue, 5)[::5]
            inners = walk_sayings(tongue, 4)[::3]
            for outer, inner in product(outers[:12], inners[:12]):
                before = (outer.said, inner.said)
                found = with_clause(outer, inner)
                self.assertEqual((found.tongue, found.frame), (tongue, outer.frame))
                items = [("clause", item[1], inner) if item[0] == "clause" else item for item in outer.said]
                self.assertEqual(found.said, tuple(items))
                self.assertEqual((outer.said, inner.said), before)
                self.assertEqual(found.inner, inner)

    def test_alike_stays_alike(self):
        tongue = tiny("last")
        rows = grouped(tongue, 5)
        pairs = [sayings[:2] for sayings in rows.values() if len(sayings) > 1]
        self.assertTrue(pairs)
        for one, other in pairs:
            for outer in self.all_with_clause(tongue, 4)[:3]:
                self.assertEqual(heard_of(with_clause(outer, one)), heard_of(with_clause(outer, other)))
            if one.inner is not None and other.inner is not None:
                inner = plain_saying(tongue, 1)
                self.assertEqual(heard_of(with_clause(one, inner)), heard_of(with_clause(other, inner)))

    def test_no_clause(self):
        for verbs in ("first", "last", "free"):
            tongue = tiny(verbs)
            outer = plain_saying(tongue, 1)
            refuses(self, NoClause, {}, with_clause, outer, plain_saying(tongue, 0))
            refuses(self, NoClause, {}, with_clause, outer, plain_saying(tongue.with_verbs("free"), 0))

    def test_what_saying_raises(self):
        tongue = nesting()
        go = Saying(tongue, 2, [("noun", "x", 0, 0, "one"), VERB])
        outer = Saying(tongue, 3, [("noun", "a", 1, 1, "one"), ("clause", 2, go), VERB])
        clash = Saying(tongue, 2, [("noun", "a", 0, 0, "one"), VERB])
        refuses(self, BadSaying, {"place": 1, "what": "unlike"}, with_clause, outer, clash)
        other = Saying(nesting(rules=[(0, 1)]), 2, [("noun", "x", 0, 0, "one"), VERB])
        refuses(self, BadSaying, {"place": 1, "what": "item"}, with_clause, outer, other)
        long = go
        for at in range(5):
            long = with_clause(Saying(tongue, 3, [("noun", "a", 1, 1, "one"), ("clause", 2, go), VERB]), long)
        self.assertEqual(long.size, 12)
        longest = with_clause(outer, long)
        self.assertEqual((longest.size, longest.depth), (14, 7))
        refuses(self, BadSaying, {"place": 0, "what": "long"}, with_clause, outer, longest)

    def test_chain_of_saying(self):
        for tongue in (tiny("last"), tiny("free"), nesting("first")):
            for saying in walk_sayings(tongue, 6)[::7]:
                found = chain_of_saying(saying)
                self.assertIsInstance(found, tuple)
                self.assertEqual(list(found), chain(saying))
        self.assertEqual(chain_of_saying(plain_saying(two_roles(), 0)), (plain_saying(two_roles(), 0),))


class NestTest(unittest.TestCase):
    def test_what_is_nested(self):
        for tongue in [tiny("last"), tiny("first", 0), tiny("free"), nesting("free", 1, [(2, 0)]),
                       nesting("last", None, [(1, 0)]), *some_tongues(20, 86)]:
            outer = [frame for frame, told in enumerate(tongue.frames) if told.clause is not None]
            inner = [frame for frame, told in enumerate(tongue.frames) if told.clause is None]
            for many in (0, 1, 2, 3):
                for frames in product(*[outer] * many, inner):
                    if sum(len(tongue.frames[frame].nouns) + 1 for frame in frames) <= 14:
                        self.check(tongue, frames)

    def check(self, tongue, frames):
        saying = nest_frames(tongue, list(frames))
        self.assertEqual(saying, nest_frames(tongue, tuple(frames)))
        self.assertEqual([told.frame for told in chain(saying)], list(frames))
        for told in chain(saying):
            self.assertEqual(told.tongue, tongue)
            self.assertEqual(pattern_of(told), plain_pattern(tongue, told.frame))
            verb = 0 if tongue.verbs == "first" else len(told.said) - 1
            self.assertEqual(told.said.index(VERB), verb)
        stems = [item[1] for item in saying.noun_items()]
        self.assertEqual(stems, list("abcdefghijklm"[:len(stems)]))

    def test_seven_frames(self):
        tongue = tiny("last")
        found = nest_frames(tongue, [0] * 6 + [1])
        self.assertEqual((found.depth, found.size), (7, 14))
        self.assertEqual(nest_frames(tongue, [1]), plain_saying(tongue, 1))

    def test_errors_in_their_order(self):
        for verbs in ("first", "last", "free"):
            tongue = tiny(verbs)
            for frames in ([], (), [0] * 7 + [1], *STRANGE):
                refuses(self, BadNest, {"index": 0, "what": "frames"}, nest_frames, tongue, frames)
            for thing in (3, -1, 10 ** 40, "0", [0], *STRANGE):
                refuses(self, BadNest, {"index": 0, "what": "frame"}, nest_frames, tongue, [thing])
                refuses(self, BadNest, {"index": 1, "what": "frame"}, nest_frames, tongue, [0, thing, 9])
                # A clause that is wrong is told ahead of a later thing that is no frame.
                refuses(self, BadNest, {"index": 0, "what": "clause"}, nest_frames, tongue, [1, thing])
            refuses(self, BadNest, {"index": 0, "what": "clause"}, nest_frames, tongue, [0])
            refuses(self, BadNest, {"index": 1, "what": "clause"}, nest_frames, tongue, [0, 0])
            refuses(self, BadNest, {"index": 1, "what": "clause"}, nest_frames, tongue, [0, 2, 1])
            refuses(self, BadNest, {"index": 0, "what": "long"}, nest_frames, tongue, [0] * 6 + [2])
            refuses(self, BadNest, {"index": 6, "what": "clause"}, nest_frames, tongue, [0] * 6 + [0])

    def test_great(self):
        found = nest_frames(great(), [0, 3, 1])
        self.assertEqual((found.size, found.depth), (11, 3))
        refuses(self, BadNest, {"index": 0, "what": "long"}, nest_frames, great(), [0, 0, 2])
        refuses(self, BadNest, {"index": 2, "what": "clause"}, nest_frames, great(), [0, 0, 0])


if __name__ == "__main__":
    unittest.main()
