"""[7.1] to [7.3]: blocks of heard rows, and the rows of a talk."""

import unittest
from itertools import product
from random import Random

from looseorder.blocks import blocks_of, chain_of, roads_of, span_of, talk_parts
from looseorder.errors import BadBlocks, BadHeard, BadTalk, FreeClauses
from looseorder.frames import Frame
from looseorder.heard import depths_of, heard_of
from looseorder.speaking import plain_saying
from looseorder.stocks import Stock
from looseorder.tongues import Tongue
from support import STRANGE, are_tuples, great, grouped, nesting, refuses, some_tongues, tiny, two_roles


def kinds(verbs):
    """A stock of four roles; frames of one to four nouns, with a clause and without."""
    noun = Stock("n", [(role, ("a",), ("b",)) for role in (0, 2, 3, 4)])
    frames = [Frame("say", (0,), 1), Frame("go", (0,)), Frame("see", (0, 2), None, 2), Frame("tell", (2, 3, 4), 1)]
    if verbs == "free":
        frames = [frame for frame in frames if frame.clause is None] + [Frame("give", (0, 2, 3, 4))]
    return Tongue(["r", "s", "t", "u", "v"], [noun], frames, (), verbs)


def row_of(tongue, text):
    """Pieces from words: "n" is a noun, a digit the verb of that frame."""
    pieces = []
    for word in text.split():
        if word == "n":
            pieces.append(("noun", "x", 0, ("a",)))
        else:
            agreed = tongue.frames[int(word)].agreed
            pieces.append(("verb", int(word), None if agreed is None else "one"))
    return tuple(pieces)


def rows_up_to(tongue, most):
    """All rows of nouns and verbs of so many pieces or fewer."""
    words = ["n", *[str(frame) for frame in range(len(tongue.frames))]]
    return [row_of(tongue, " ".join(row)) for many in range(1, most + 1) for row in product(words, repeat=many)]


def walk_blocks(tongue, pieces, first, behind):
    """All blocks that the pieces of a span can be, whatever verb takes first."""
    found = []
    gaps = [(behind, behind)] + [(start, end) for start in range(first, behind) for end in range(start + 1, behind + 1)]
    for start, end in gaps:
        own = [place for place in range(first, behind) if not start <= place < end]
        verbs = [place for place in own if pieces[place][0] == "verb"]
        if len(verbs) != 1 or behind - first > 14:
            continue
        frame = tongue.frames[pieces[verbs[0]][1]]
        must = {"first": first, "last": behind - 1, "free": verbs[0]}[tongue.verbs]
        if len(own) != len(frame.nouns) + 1 or (frame.clause is None) != (start == end) or verbs[0] != must:
            continue
        for inner in walk_blocks(tongue, pieces, start, end) if start < end else [None]:
            things = [(place, place) for place in own if place != verbs[0]]
            things += [(start, inner)] if inner is not None else []
            found.append((pieces[verbs[0]][1], verbs[0], tuple(thing for _, thing in sorted(things))))
    return found


def walk_parts(tongue, pieces, first=0):
    """All ways to part a talk into blocks."""
    if first == len(pieces):
        return [()]
    return [((first, behind), *rest) for behind in range(first + 1, len(pieces) + 1)
            for _ in walk_blocks(tongue, pieces, first, behind) for rest in walk_parts(tongue, pieces, behind)]


def pieces_in(thing):
    """The places of the pieces of a thing."""
    return [thing] if isinstance(thing, int) else [thing[1], *[place for part in thing[2] for place in pieces_in(part)]]


def take(tongue, pieces):
    """By the words of [7.1]: the place of the first verb that cannot take, else None, and the things left over."""
    things = {place: place for place, piece in enumerate(pieces) if piece[0] == "noun"}
    verbs = [place for place, piece in enumerate(pieces) if piece[0] == "verb"]
    if tongue.verbs == "first":
        verbs = verbs[::-1]
    for verb in verbs:
        frame = tongue.frames[pieces[verb][1]]
        many = len(frame.slots)
        if tongue.verbs == "free":
            taken = {place for thing in things.values() if not isinstance(thing, int) for place in pieces_in(thing)}
            open_places = [place for place in range(len(pieces)) if place not in taken][:many + 1]
            near = [place for place in open_places if place != verb]
            if verb not in open_places or any(pieces[place][0] == "verb" for place in near):
                return verb, None
        elif tongue.verbs == "last":
            near = sorted(place for place in things if place < verb)[-many:]
        else:
            near = sorted(place for place in things if place > verb)[:many]
        block = (pieces[verb][1], verb, tuple(things[place] for place in near))
        clauses = [thing for thing in block[2] if not isinstance(thing, int)]
        if len(near) != many or len(clauses) != (frame.clause is not None) or len(pieces_in(block)) > 14:
            return verb, None
        for place in near:
            del things[place]
        things[verb] = block
    return None, [things[place] for place in sorted(things, key=lambda at: min(pieces_in(things[at])))]


def tongues():
    return [kinds("last"), kinds("first"), kinds("free"), tiny("last"), tiny("first"), two_roles((), "free")]


class BlocksTest(unittest.TestCase):
    def test_the_example(self):
        noun = Stock("n", [(0, ("a",), ("b",)), (2, ("a",), ("b",))])
        tongue = Tongue(["r", "s", "t"], [noun], [Frame("f", (0,), 1), Frame("g", (0, 2))])
        heard = row_of(tongue, "n n n 1 0")
        self.assertEqual(blocks_of(tongue, heard), (0, 4, (0, (1, 3, (1, 2)))))

    def test_all_rows(self):
        for tongue in tongues():
            met = set()
            for heard in rows_up_to(tongue, 5 if len(tongue.frames) > 3 else 6):
                found = walk_blocks(tongue, heard, 0, len(heard))
                self.assertLessEqual(len(found), 1)
                if found:
                    self.assertEqual(blocks_of(tongue, heard), found[0])
                    self.assertTrue(are_tuples(found[0]))
                else:
                    place, _ = take(tongue, heard)
                    met.add((place is None, place == 0))
                    refuses(self, BadBlocks, {"place": len(heard) if place is None else place},
                            blocks_of, tongue, heard)
            self.assertTrue(met >= {(True, False), (False, False), (False, True)})

    def test_what_sayings_are(self):
        for tongue in [tiny("last", 0), tiny("first"), *some_tongues(12, 71, 3, "last"),
                       *some_tongues(8, 72, 3, "first")]:
            for heard, sayings in grouped(tongue, 5).items():
                block = blocks_of(tongue, list(heard))
                chain = chain_of(block)
                self.assertEqual([told[0] for told in chain], frames_of(sayings[0]))
                for saying in sayings:
                    self.assertEqual([told[0] for told in chain], frames_of(saying))
                    self.assertEqual(tuple(depth_in(chain, place) for place in range(len(heard))), depths_of(saying))

    def test_a_row_that_is_no_block(self):
        tongue = kinds("last")
        for text in ("n", "n n", "n n 1", "n 1 n 1", "n 1 n"):
            refuses(self, BadBlocks, {"place": len(text.split())}, blocks_of, tongue, row_of(tongue, text))
        for text, place in (("1", 0), ("n 0", 1), ("n n 0", 2), ("n 1 2", 2), ("n 1 n 2", 3), ("n n 1 0 0", 4),
                            ("n 1 0", 2), ("n 1 n 1 0", 4)):
            refuses(self, BadBlocks, {"place": place}, blocks_of, tongue, row_of(tongue, text))

    def test_verbs_first_are_asked_from_the_end(self):
        tongue = kinds("first")
        refuses(self, BadBlocks, {"place": 3}, blocks_of, tongue, row_of(tongue, "0 0 n 1"))
        refuses(self, BadBlocks, {"place": 0}, blocks_of, tongue, row_of(tongue, "0 n n"))
        refuses(self, BadBlocks, {"place": 3}, blocks_of, tongue, row_of(tongue, "n 1 n"))
        self.assertEqual(blocks_of(tongue, row_of(tongue, "0 1 n n")), (0, 0, ((1, 1, (2,)), 3)))

    def test_free_verbs(self):
        tongue = kinds("free")
        self.assertEqual(blocks_of(tongue, row_of(tongue, "n 1 n")), (1, 1, (0, 2)))
        self.assertEqual(blocks_of(tongue, row_of(tongue, "n n n n 2")), (2, 4, (0, 1, 2, 3)))
        self.assertEqual(blocks_of(tongue, row_of(tongue, "0 n")), (0, 0, (1,)))
        for text, place in (("n n 0", 2), ("0 0", 0), ("n 1", 1), ("0 n n", 3), ("n n 1 0", 3), ("n 0 n 0", 4),
                            ("n 1 0", 1)):
            refuses(self, BadBlocks, {"place": place}, blocks_of, tongue, row_of(tongue, text))

    def test_fourteen_pieces(self):
        tongue = kinds("last")
        heard = row_of(tongue, "n 1 " + "n 0 " * 6)
        block = blocks_of(tongue, heard)
        self.assertEqual(span_of(block), (0, 14))
        self.assertEqual([told[0] for told in chain_of(block)], [0] * 6 + [1])
        refuses(self, BadHeard, {"index": 0, "what": "many"}, blocks_of, tongue, row_of(tongue, "n n 2 " + "n 0 " * 6))

    def test_errors_in_their_order(self):
        free = tiny("free")
        noun = ("noun", "x", 0, ("a",))
        for heard in ([], (), None, "n", {}, [noun] * 15):
            refuses(self, BadHeard, {"index": 0, "what": "many"}, blocks_of, free, heard)
            refuses(self, BadHeard, {"index": 0, "what": "many"}, roads_of, free, heard)
        bad = [noun, ("noun", "x", 9, ("a",))]
        refuses(self, BadHeard, {"index": 1, "what": "stock"}, blocks_of, free, bad)
        refuses(self, BadHeard, {"index": 1, "what": "stock"}, blocks_of, tiny("last"), bad)
        # Free verbs and a clause role: that is told ahead of what no block can be, also where no clause is heard.
        for heard in ([noun], [noun, ("verb", 1, None)], [noun, ("verb", 0, None)]):
            refuses(self, FreeClauses, {}, blocks_of, free, heard)
            refuses(self, FreeClauses, {}, roads_of, free, heard)
        refuses(self, FreeClauses, {}, blocks_of, great(), [noun])

    def test_nothing_changes(self):
        tongue = tiny("last")
        heard = [["noun", "x", 0, ["a"]], ["verb", 1, None]]
        self.assertEqual(blocks_of(tongue, heard), (1, 1, (0,)))
        self.assertEqual(roads_of(tongue, heard), ((1,), (1,)))
        self.assertEqual(heard, [["noun", "x", 0, ["a"]], ["verb", 1, None]])
        self.assertEqual(tongue, tiny("last"))


def frames_of(saying):
    return [saying.frame] + (frames_of(saying.inner) if saying.inner is not None else [])


def depth_in(chain, place):
    return max(depth for depth, block in enumerate(chain) if place in pieces_in(block))


class ChainTest(unittest.TestCase):
    def test_chain_span_and_roads(self):
        for tongue in tongues():
            for heard in rows_up_to(tongue, 5):
                found = walk_blocks(tongue, heard, 0, len(heard))
                if found:
                    self.check(tongue, heard, found[0])

    def check(self, tongue, heard, block):
        chain = chain_of(block)
        self.assertIsInstance(chain, tuple)
        self.assertEqual(chain[0], block)
        for told, inner in zip(chain, chain[1:]):
            self.assertEqual([thing for thing in told[2] if not isinstance(thing, int)], [inner])
        self.assertTrue(all(isinstance(thing, int) for thing in chain[-1][2]))
        for told in chain:
            places = sorted(pieces_in(told))
            self.assertEqual(span_of(told), (places[0], places[-1] + 1))
            self.assertEqual(places, list(range(*span_of(told))))
        roads = roads_of(tongue, list(heard))
        self.assertEqual(roads, tuple(tuple(told[0] for told in chain if place in pieces_in(told))
                                      for place in range(len(heard))))
        self.assertTrue(are_tuples((chain, roads)))

    def test_span_within(self):
        self.assertEqual(span_of((1, 5, (3, 4))), (3, 6))
        self.assertEqual(span_of((1, 3, (4, (2, 5, (6, 7))))), (3, 8))
        self.assertEqual(chain_of((1, 5, (3, 4))), ((1, 5, (3, 4)),))

    def test_blocks_in_lists(self):
        block = [0, 4, [0, [1, 3, [1, 2]]]]
        self.assertEqual(chain_of(block), ((0, 4, (0, (1, 3, (1, 2)))), (1, 3, (1, 2))))
        self.assertEqual(span_of(block), (0, 5))
        self.assertEqual(block, [0, 4, [0, [1, 3, [1, 2]]]])

    def test_roads_raise_as_blocks_do(self):
        tongue = kinds("last")
        refuses(self, BadBlocks, {"place": 3}, roads_of, tongue, row_of(tongue, "n n 1"))
        refuses(self, BadBlocks, {"place": 0}, roads_of, tongue, row_of(tongue, "1 n n"))


class TalkTest(unittest.TestCase):
    def test_all_talks(self):
        for tongue in tongues():
            several = 0
            for pieces in [(), *rows_up_to(tongue, 5)]:
                found = walk_parts(tongue, pieces)
                self.assertLessEqual(len(found), 1)
                if found:
                    self.assertEqual(talk_parts(tongue, pieces), found[0])
                    several += len(found[0]) > 1
                else:
                    place, left = take(tongue, pieces)
                    self.assertTrue(place is not None or any(isinstance(thing, int) for thing in left))
                    refuses(self, BadBlocks, {"place": len(pieces) if place is None else place},
                            talk_parts, tongue, pieces)
            self.assertTrue(several)

    def test_long_talks_of_sayings(self):
        source = Random(73)
        for tongue in [*tongues(), *some_tongues(6, 74, 3, "last"), *some_tongues(6, 75, 3, "first")]:
            if tongue.verbs == "free" and any(frame.clause is not None for frame in tongue.frames):
                continue
            rows = list(grouped(tongue, 5))
            for _ in range(20):
                talk, parts = [], []
                while len(talk) <= 55:
                    row = source.choice(rows)
                    parts.append((len(talk), len(talk) + len(row)))
                    talk += row
                self.assertEqual(talk_parts(tongue, talk), tuple(parts))
                self.assertEqual(talk_parts(tongue, tuple(talk)), tuple(parts))

    def test_sixty_pieces(self):
        tongue = kinds("last")
        self.assertEqual(talk_parts(tongue, row_of(tongue, "n 1 " * 30)),
                         tuple((2 * at, 2 * at + 2) for at in range(30)))
        refuses(self, BadTalk, {"index": 0}, talk_parts, tongue, row_of(tongue, "n 1 " * 30 + "n"))
        self.assertEqual(talk_parts(tongue, ()), ())
        self.assertEqual(talk_parts(tongue, []), ())

    def test_a_block_of_more_than_fourteen_pieces(self):
        for verbs in ("last", "first"):
            tongue = kinds(verbs)
            inner, three, more = "n 1 ", "n n 2 ", "n 0 "
            self.talk_of(tongue, inner + more * 6, [(0, 14)])
            self.talk_of(tongue, inner * 2 + more * 6 + inner, [(0, 2), (2, 16), (16, 18)])
            self.talk_fails(tongue, three + more * 6, 14)
            self.talk_fails(tongue, inner + more * 7, 15)
            self.talk_fails(tongue, inner + more * 20, 15)

    def turned(self, tongue, text):
        words = text.split()
        return row_of(tongue, " ".join(words if tongue.verbs == "last" else words[::-1]))

    def talk_of(self, tongue, text, parts):
        pieces = self.turned(tongue, text)
        if tongue.verbs == "first":
            parts = [(len(pieces) - behind, len(pieces) - first) for first, behind in parts[::-1]]
        self.assertEqual(talk_parts(tongue, pieces), tuple(parts))

    def talk_fails(self, tongue, text, place):
        pieces = self.turned(tongue, text)
        told = place if tongue.verbs == "last" else len(pieces) - 1 - place
        refuses(self, BadBlocks, {"place": told}, talk_parts, tongue, pieces)

    def test_stems_are_not_compared(self):
        noun = Stock("n", [(0, ("a",), ("b",))])
        other = Stock("m", [(0, ("c",), ("d",))])
        tongue = Tongue(["r"], [noun, other], [Frame("go", (0,))])
        talk = [("noun", "x", 0, ("a",)), ("verb", 0, None), ("noun", "x", 1, None), ("verb", 0, None)]
        self.assertEqual(talk_parts(tongue, talk), ((0, 2), (2, 4)))

    def test_errors_in_their_order(self):
        free = tiny("free")
        noun = ("noun", "x", 0, ("a",))
        for pieces in ([noun] * 61, *STRANGE):
            refuses(self, BadTalk, {"index": 0}, talk_parts, free, pieces)
            refuses(self, BadTalk, {"index": 0}, talk_parts, tiny("last"), pieces)
        wrong = [("noun", "x", 9, ("a",)), ("noun", "", 0, ("a",)), ("noun", "x", 0, ()), ("noun", "x", 0),
                 ("verb", 9, None), ("verb", 1, "one"), ("verb", 2, None), ("adverb", 0, None), *STRANGE]
        for piece in wrong:
            for at in (0, 3, 20):
                refuses(self, BadTalk, {"index": at}, talk_parts, free, [noun] * at + [piece, None, noun])
                refuses(self, BadTalk, {"index": at}, talk_parts, tiny("last"), [noun] * at + [piece])
        for pieces in ([], [noun], [noun, ("verb", 1, None)]):
            refuses(self, FreeClauses, {}, talk_parts, free, pieces)
        refuses(self, BadBlocks, {"place": 1}, talk_parts, tiny("last"), [noun])
        refuses(self, BadBlocks, {"place": 2}, talk_parts, tiny("last"), [noun, noun, ("verb", 0, None), noun])

    def test_nothing_changes(self):
        tongue = tiny("last")
        talk = [["noun", "x", 0, ["a"]], ["verb", 1, None]] * 2
        self.assertEqual(talk_parts(tongue, talk), ((0, 2), (2, 4)))
        self.assertEqual(talk, [["noun", "x", 0, ["a"]], ["verb", 1, None]] * 2)


class GreatTest(unittest.TestCase):
    def test_all_verbs_of_great_tongues(self):
        for verbs in ("first", "last"):
            tongue = great().with_verbs(verbs)
            heard = heard_of(plain_saying(tongue, 0))
            self.assertEqual(len(chain_of(blocks_of(tongue, heard))), 2)

    def test_nesting(self):
        tongue = nesting()
        heard = heard_of(plain_saying(tongue, 0))
        self.assertEqual(chain_of(blocks_of(tongue, heard))[0][0], 0)


if __name__ == "__main__":
    unittest.main()
