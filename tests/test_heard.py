"""[0.6], [2.9] heard rows."""

import unittest

from looseorder.errors import BadHeard, BadPlaces
from looseorder.heard import check_heard, depths_of, heard_of, roles_heard, swallow
from looseorder.sayings import Saying
from looseorder.speaking import plain_saying
from support import STRANGE, are_tuples, great, nesting, refuses, two_roles

VERB = ("verb",)
NOUN = ("noun", "man", 0, ("a",))


def bad(test, index, what, heard, tongue=None, **more):
    refuses(test, BadHeard, {"index": index, "what": what}, check_heard, tongue or nesting(), heard, **more)


def deep(verbs="free", agreed=1):
    """Three clauses, the second in front of the first one's verb, the third inside."""
    tongue = nesting(verbs, agreed)
    go = Saying(tongue, 2, [("noun", "cat", 0, 0, "many"), VERB])
    hear = Saying(tongue, 3, [("clause", 2, go), ("noun", "owl", 1, 1, "one"), VERB])
    return Saying(tongue, 0, [("noun", "man", 0, 0, "one"), ("clause", 2, hear), ("noun", "dog", 1, 1, "many"), VERB])


class HeardTest(unittest.TestCase):
    def test_clauses_are_laid_out_where_they_stand(self):
        found = heard_of(deep())
        self.assertEqual(found, (("noun", "man", 0, ("a",)), ("noun", "cat", 0, ("a", "s")), ("verb", 2, "many"),
                                 ("noun", "owl", 1, ("a",)), ("verb", 3, None), ("noun", "dog", 1, ("b",)),
                                 ("verb", 0, "many")))
        self.assertTrue(are_tuples(found))

    def test_the_heard_number_is_that_of_its_own_clause(self):
        self.assertEqual(heard_of(deep(agreed=0))[-1], ("verb", 0, "one"))
        self.assertEqual(heard_of(deep(agreed=None))[-1], ("verb", 0, None))

    def test_where_the_verb_stands(self):
        tongue = two_roles((), "free")
        nouns = [("noun", "x", 0, 1, "many"), ("noun", "y", 0, 0, "one")]
        for place in range(3):
            items = list(nouns)
            items.insert(place, VERB)
            pieces = [("noun", "x", 0, ("t",)), ("noun", "y", 0, ("a",))]
            pieces.insert(place, ("verb", 0, None))
            self.assertEqual(heard_of(Saying(tongue, 0, items)), tuple(pieces))

    def test_depths(self):
        self.assertEqual(depths_of(deep()), (0, 2, 2, 1, 1, 0, 0))
        self.assertEqual(depths_of(plain_saying(two_roles(), 0)), (0, 0, 0))
        self.assertEqual(depths_of(plain_saying(nesting("first"), 3)), (0, 0, 1, 1, 1, 1))
        self.assertTrue(are_tuples(depths_of(deep())))

    def test_roles(self):
        self.assertEqual(roles_heard(deep()), (0, 0, None, 1, None, 1, None))
        self.assertEqual(roles_heard(plain_saying(two_roles([(1, 0)]), 0)), (1, 0, None))
        self.assertTrue(are_tuples(roles_heard(deep())))

    def test_as_many_as_the_pieces(self):
        for saying in (deep(), plain_saying(great(), 0), plain_saying(great(), 3)):
            heard = heard_of(saying)
            self.assertEqual((len(heard), len(depths_of(saying)), len(roles_heard(saying))), (saying.size,) * 3)
            self.assertEqual([piece[0] == "verb" for piece in heard], [role is None for role in roles_heard(saying)])
            self.assertEqual(check_heard(saying.tongue, heard), heard)


class CheckTest(unittest.TestCase):
    def test_right_rows_come_back_in_tuples(self):
        heard = [["noun", "man", 0, ["a", "s"]], ("noun", "owl", 1, None), ["verb", 2, "one"], ("verb", 0, None)]
        found = check_heard(nesting(), heard)
        self.assertEqual(found, (("noun", "man", 0, ("a", "s")), ("noun", "owl", 1, None), ("verb", 2, "one"),
                                 ("verb", 0, None)))
        self.assertTrue(are_tuples(found))
        self.assertEqual(heard[0], ["noun", "man", 0, ["a", "s"]])
        heard[0][3][0] = "x"
        self.assertEqual(found[0], ("noun", "man", 0, ("a", "s")))

    def test_any_ending_and_one_stem_with_one_stock_twice(self):
        heard = (("noun", "a", 0, ("zzz", "", "", "q")), ("noun", "a", 0, None), ("noun", "a", 0, ("a",)))
        self.assertEqual(check_heard(nesting(), heard), heard)

    def test_many(self):
        for heard in (*STRANGE, (), [], "", {0: NOUN}, iter([NOUN])):
            bad(self, 0, "many", heard)
        self.assertEqual(len(check_heard(nesting(), [NOUN] * 14)), 14)
        bad(self, 0, "many", [NOUN] * 15)
        bad(self, 0, "many", [5] * 15)

    def test_another_most(self):
        self.assertEqual(len(check_heard(nesting(), [NOUN] * 60, 60)), 60)
        self.assertEqual(len(check_heard(nesting(), [NOUN] * 3, most=3)), 3)
        bad(self, 0, "many", [NOUN] * 61, most=60)
        bad(self, 0, "many", [NOUN] * 4, most=3)

    def test_piece(self):
        for piece in (*STRANGE, (), ("noun",), ("noun", "man", 0), ("noun", "man", 0, None, 1), ("verb", 0),
                      ("verb", 0, None, None), ("Noun", "man", 0, None), ("verbs", 0, None), ("clause", 0, None),
                      "noun", ("verb", "man", 0, None), ("noun", 0, None), {0: "verb", 1: 0, 2: None}, ([], 0, None)):
            bad(self, 0, "piece", [piece, 5])
            bad(self, 2, "piece", [NOUN, ("verb", 0, None), piece])

    def test_stem(self):
        for stem in (*STRANGE[:5], *STRANGE[6:], "", "abcdefg", "A", "a b", ["a"]):
            bad(self, 0, "stem", [("noun", stem, 9, 9), 5])

    def test_stock(self):
        for stock in (*STRANGE, -1, 2, [0], 10 ** 30):
            bad(self, 1, "stock", [NOUN, ("noun", "a", stock, 9)])

    def test_ending(self):
        for ending in (*STRANGE[1:], (), "a", ("abcd",), ["a"] * 5, (None,)):
            bad(self, 0, "ending", [("noun", "a", 0, ending), 5])

    def test_double(self):
        bad(self, 1, "double", [NOUN, ("noun", "man", 1, None), 5])
        bad(self, 3, "double", [NOUN, ("verb", 0, None), ("noun", "x", 1, None), ("noun", "man", 1, None)])
        bad(self, 2, "double", [("noun", "a", 1, None), ("noun", "b", 0, None), ("noun", "a", 0, None)])

    def test_frame(self):
        for frame in (*STRANGE, -1, 4, [0], 10 ** 30):
            bad(self, 0, "frame", [("verb", frame, 9), 5])

    def test_number(self):
        for number in (*STRANGE, "two", 1, ["one"]):
            bad(self, 0, "number", [("verb", 2, number), 5])
        for number in (*STRANGE[1:], "one", "many", 0):
            bad(self, 1, "number", [NOUN, ("verb", 0, number)])

    def test_which_is_asked_first(self):
        bad(self, 0, "stem", [("noun", "", 9, 9)])
        bad(self, 0, "stock", [("noun", "a", 9, 9)])
        bad(self, 0, "ending", [("noun", "a", 0, 9), 5])
        bad(self, 1, "ending", [NOUN, ("noun", "man", 1, 9)])
        bad(self, 1, "double", [NOUN, ("noun", "man", 1, None), ("verb", 9, 9)])
        bad(self, 0, "frame", [("verb", 9, 9), 5])
        bad(self, 0, "number", [("verb", 0, 9), 5])


class SwallowTest(unittest.TestCase):
    ROW = (NOUN, ("verb", 2, "one"), ("noun", "owl", 1, ("b", "")), ("noun", "cat", 0, None), ("verb", 0, None))

    def test_swallowed(self):
        for places, hidden in (((), ()), ([0], (0,)), ((2, 3), (2,)), ([3], ()), ((0, 2, 3), (0, 2))):
            expected = tuple((*piece[:3], None) if at in hidden else piece for at, piece in enumerate(self.ROW))
            found = swallow(self.ROW, places)
            self.assertEqual(found, expected)
            self.assertTrue(are_tuples(found))

    def test_lists(self):
        heard = [list(NOUN[:3]) + [["a"]], ["verb", 2, "one"], ["noun", "owl", 1, ["b"]]]
        found = swallow(heard, [2])
        self.assertEqual(found, (NOUN, ("verb", 2, "one"), ("noun", "owl", 1, None)))
        self.assertTrue(are_tuples(found))
        self.assertEqual(heard[2], ["noun", "owl", 1, ["b"]])
        heard[0][3][0] = "x"
        self.assertEqual(found[0], NOUN)

    def test_places(self):
        for places in (*STRANGE, 0, (1,), (4,), (5,), (-1,), (0, 0), (2, 0), (0, 1), (True,), (False,), ("0",), ([0],),
                       (None,), {0: 1}, iter((0,)), (0, 3, 2), (10 ** 30,), "0"):
            refuses(self, BadPlaces, {}, swallow, self.ROW, places)


if __name__ == "__main__":
    unittest.main()
