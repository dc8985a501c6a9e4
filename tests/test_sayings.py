"""[0.6], [0.8], [0.9], [0.11], [1.8] sayings."""

import unittest

from looseorder.errors import BadSaying, NoFrame
from looseorder.frames import Frame
from looseorder.sayings import Saying
from looseorder.stocks import Stock
from looseorder.tongues import Tongue
from support import STRANGE, are_tuples, great, nesting, refuses, two_roles

VERB = ("verb",)
WHO = ("noun", "man", 0, 0, "one")
WHOM = ("noun", "dog", 0, 1, "many")


def bad(test, place, what, tongue, frame, said):
    refuses(test, BadSaying, {"place": place, "what": what}, Saying, tongue, frame, said)


def going(tongue, stem="cat", stock=0):
    return Saying(tongue, 2, [("noun", stem, stock, 0, "one"), VERB])


class MakeTest(unittest.TestCase):
    def test_one_clause(self):
        tongue = two_roles()
        saying = Saying(tongue, 0, [list(WHOM), WHO, ["verb"]])
        self.assertEqual((saying.tongue, saying.frame, saying.said), (tongue, 0, (WHOM, WHO, VERB)))
        self.assertTrue(are_tuples(saying.said))
        self.assertEqual((saying.depth, saying.size, saying.inner), (1, 3, None))
        self.assertEqual(list(saying.noun_items()), [WHOM, WHO])

    def test_a_clause_within(self):
        tongue = nesting()
        inner = going(tongue)
        saying = Saying(tongue, 0, (WHO, ["clause", 2, inner], WHOM, VERB))
        self.assertEqual(saying.said, (WHO, ("clause", 2, inner), WHOM, VERB))
        self.assertEqual((saying.depth, saying.size), (2, 5))
        self.assertEqual(saying.inner, inner)
        self.assertEqual(list(saying.noun_items()), [WHO, ("noun", "cat", 0, 0, "one"), WHOM])
        outer = Saying(tongue, 3, [("clause", 2, saying), ("noun", "owl", 1, 1, "one"), VERB])
        self.assertEqual((outer.depth, outer.size, outer.inner), (3, 7, saying))
        self.assertEqual([item[1] for item in outer.noun_items()], ["man", "cat", "dog", "owl"])

    def test_noun_items_are_tuples(self):
        saying = Saying(two_roles(), 0, [list(WHOM), list(WHO), ["verb"]])
        self.assertTrue(are_tuples(tuple(saying.noun_items())))

    def test_an_equal_tongue_will_do(self):
        saying = Saying(nesting(), 3, [("clause", 2, going(nesting())), ("noun", "a", 1, 1, "one"), VERB])
        self.assertEqual(saying.depth, 2)

    def test_verbs_stand_where_they_must(self):
        for verbs, places in (("first", [0]), ("last", [2]), ("free", [0, 1, 2])):
            for place in range(3):
                said = [WHO, WHOM]
                said.insert(place, VERB)
                if place in places:
                    self.assertEqual(Saying(two_roles((), verbs), 0, said).said, tuple(said))
                else:
                    bad(self, place, "verb", two_roles((), verbs), 0, said)

    def test_stems(self):
        for stem in ("a", "zzzzzz"):
            self.assertEqual(Saying(two_roles(), 1, [("noun", stem, 0, 0, "one"), VERB]).said[0][1], stem)

    def test_one_stem_twice_with_one_stock(self):
        tongue = nesting()
        said = [("noun", "man", 0, 0, "one"), ("noun", "man", 0, 1, "one"), ("clause", 2, going(tongue, "man")), VERB]
        self.assertEqual([item[1] for item in Saying(tongue, 0, said).noun_items()], ["man"] * 3)

    def test_what_is_passed_in_stays_and_is_not_kept(self):
        tongue = nesting()
        said = [["noun", "man", 0, 0, "one"], ["clause", 2, going(tongue)], ["noun", "dog", 0, 1, "many"], ["verb"]]
        saying = Saying(tongue, 0, said)
        self.assertEqual(said[0], ["noun", "man", 0, 0, "one"])
        self.assertEqual(len(said), 4)
        said[0][1] = "x"
        said.pop()
        self.assertEqual(saying.said, (WHO, ("clause", 2, going(tongue)), WHOM, VERB))

    def test_longest(self):
        tongue = long_tongue()
        inner = Saying(tongue, 1, [("noun", "x", 0, 0, "one"), VERB])
        for size in (8, 14):  # inner 2, then six more each time
            nouns = [("noun", "y", 0, role, "one") for role in range(5)]
            inner = Saying(tongue, 0, [*nouns, ("clause", 5, inner), VERB])
            self.assertEqual(inner.size, size)
        bad(self, 0, "long", tongue, 2, [("noun", "y", 0, 0, "one"), ("clause", 5, inner), VERB])


    def test_fifteen(self):
        tongue = long_tongue()
        inner = Saying(tongue, 3, [("noun", "x", 0, 0, "one"), ("noun", "x", 0, 1, "one"), VERB])
        nouns = [("noun", "y", 0, role, "one") for role in range(5)]
        inner = Saying(tongue, 0, [*nouns, ("clause", 5, inner), VERB])
        self.assertEqual(inner.size, 9)
        bad(self, 0, "long", tongue, 0, [*nouns, ("clause", 5, inner), VERB])


def long_tongue():
    stocks = [Stock("n", [(role, ("a",), ("b",)) for role in range(5)]), Stock("m", [(0, ("a",), ("b",))])]
    frames = [Frame("f", (0, 1, 2, 3, 4), 5), Frame("g", (0,)), Frame("h", (0,), 5), Frame("i", (0, 1))]
    return Tongue(list("abcdef"), stocks, frames)


class RefuseTest(unittest.TestCase):
    def test_frame(self):
        for frame in (*STRANGE, -1, 2, [0]):
            refuses(self, NoFrame, {"frame": frame}, Saying, two_roles(), frame, None)

    def test_items(self):
        for said in (*STRANGE, (), [WHO, WHOM], [WHO, WHOM, VERB, VERB], [WHO, VERB], "abc", iter([WHO])):
            bad(self, 0, "items", two_roles(), 0, said)
        bad(self, 0, "items", nesting(), 0, [WHO, WHOM, VERB])
        bad(self, 0, "items", two_roles(), 1, [WHO, WHOM, VERB])

    def test_item(self):
        tongue = nesting()
        for item in (*STRANGE, (), ("noun",), ("noun", "man", 0, 0), ("noun", "man", 0, 0, "one", 1), ("verb", 0),
                     ("clause", 2), ("clause", 2, going(tongue), 1), ("verbs",), "verb", ("Noun", "man", 0, 0, "one"),
                     ("noun", 2, going(tongue)), ("clause", "man", 0, 0, "one"), ("clause",), ("verb", 2, 3),
                     ("clause", 2, None), ("clause", 2, WHO), ("clause", 2, (2, [WHO, VERB])), ([], 2, 3), (None,),
                     ("clause", 9, going(nesting("last", 0)))):
            bad(self, 0, "item", tongue, 0, [item, None, None, None])
            bad(self, 2, "item", tongue, 0, [WHO, WHOM, item, VERB])

    def test_a_clause_of_another_tongue(self):
        for other in (nesting("free"), nesting("last", 1), nesting(rules=[(0, 1)])):
            bad(self, 1, "item", nesting(), 0, [WHO, ("clause", 2, going(other)), WHOM, VERB])

    def test_stem(self):
        for stem in (*STRANGE[:5], *STRANGE[6:], "", "abcdefg", "A", "a b", ["a"]):
            bad(self, 0, "stem", two_roles(), 0, [("noun", stem, 9, 9, 9), None, None])
            bad(self, 1, "stem", two_roles(), 0, [WHO, ("noun", stem, 0, 1, "one"), VERB])

    def test_stock(self):
        for stock in (*STRANGE, -1, 1, [0], 10 ** 30):
            bad(self, 0, "stock", two_roles(), 0, [("noun", "a", stock, 9, 9), None, None])

    def test_role_of_a_noun(self):
        for role in (*STRANGE, -1, 2, 3, 4, [0], 10 ** 30):
            bad(self, 0, "role", nesting(), 0, [("noun", "a", 0, role, 9), None, None, None])
        bad(self, 1, "role", nesting(), 0, [WHO, ("noun", "a", 1, 0, "one"), WHOM, VERB])
        bad(self, 0, "role", nesting(), 2, [WHOM, VERB])

    def test_role_of_a_clause(self):
        tongue = nesting()
        for role in (*STRANGE, 0, 1, 3, -1, [2]):
            bad(self, 0, "role", tongue, 0, [("clause", role, going(tongue)), None, None, None])
        bad(self, 0, "role", tongue, 2, [("clause", None, going(tongue)), VERB])
        bad(self, 0, "role", tongue, 2, [("clause", 2, going(tongue)), VERB])
        bad(self, 1, "role", tongue, 1, [WHO, ("clause", None, going(tongue)), WHOM, VERB])

    def test_true_is_no_clause_role(self):
        stock = Stock("n", [(0, ("a",), ("b",))])
        tongue = Tongue(["a", "b"], [stock], [Frame("f", (0,), 1), Frame("g", (0,))])
        inner = Saying(tongue, 1, [("noun", "a", 0, 0, "one"), VERB])
        bad(self, 0, "role", tongue, 0, [("clause", True, inner), ("noun", "a", 0, 0, "one"), VERB])

    def test_number(self):
        for number in (*STRANGE, 0, "two", ["one"]):
            bad(self, 0, "number", two_roles(), 0, [("noun", "a", 0, 0, number), None, None])

    def test_double(self):
        tongue = nesting()
        clause = ("clause", 2, going(tongue))
        bad(self, 1, "double", tongue, 0, [WHO, ("noun", "x", 0, 0, "many"), None, None])
        bad(self, 2, "double", tongue, 0, [WHO, VERB, VERB, None])
        bad(self, 1, "double", tongue, 0, [clause, clause, None, None])
        bad(self, 3, "double", tongue, 0, [WHO, clause, WHOM, WHO])

    def test_rule(self):
        tongue = nesting(rules=[(0, 3), (3, 1), (1, 2)])
        clause = ("clause", 2, going(tongue))
        bad(self, 1, "rule", tongue, 0, [WHOM, WHO, clause, VERB])
        bad(self, 2, "rule", tongue, 0, [WHO, clause, WHOM, VERB])
        bad(self, 1, "rule", tongue, 0, [clause, WHO, WHOM, VERB])
        free = two_roles([(0, 1)], "free")
        bad(self, 2, "rule", free, 0, [VERB, WHOM, WHO])
        bad(self, 2, "rule", free, 0, [WHOM, VERB, WHO])
        self.assertEqual(Saying(free, 0, [WHO, VERB, WHOM]).size, 3)

    def test_unlike(self):
        tongue = nesting()
        thing = ("noun", "man", 1, 1, "one")
        bad(self, 1, "unlike", tongue, 0, [WHO, thing, ("clause", 2, going(tongue)), VERB])
        bad(self, 2, "unlike", tongue, 0, [thing, ("clause", 2, going(tongue)), WHO, VERB])
        bad(self, 1, "unlike", tongue, 0, [thing, ("clause", 2, going(tongue, "man")), ("noun", "o", 0, 0, "one"),
                                           VERB])
        bad(self, 2, "unlike", tongue, 0, [("clause", 2, going(tongue, "man")), ("noun", "o", 0, 0, "one"), thing,
                                           VERB])
        bad(self, 1, "unlike", tongue, 3, [("clause", 2, Saying(tongue, 0, [WHO, ("noun", "x", 1, 1, "one"),
                                                                            ("clause", 2, going(tongue)), VERB])),
                                           ("noun", "x", 0, 1, "one"), VERB])

    def test_words_of_one_item_before_the_next(self):
        tongue = two_roles()
        bad(self, 0, "stem", tongue, 0, [("noun", "", 9, 9, 9), ("x",), VERB])
        bad(self, 0, "stock", tongue, 0, [("noun", "a", 9, 9, 9), ("x",), VERB])
        bad(self, 0, "role", tongue, 0, [("noun", "a", 0, 9, 9), ("x",), VERB])
        bad(self, 0, "number", tongue, 0, [("noun", "a", 0, 0, 9), ("x",), VERB])
        bad(self, 1, "number", tongue, 0, [WHO, ("noun", "a", 0, 0, 9), ("x",)])
        bad(self, 1, "double", tongue, 0, [WHO, WHO, ("x",)])
        bad(self, 2, "item", tongue, 0, [WHOM, WHO, ("x",)])

    def test_words_behind_all_items(self):
        tongue = nesting(rules=[(0, 1)])
        thing = ("noun", "man", 1, 1, "one")
        clause = ("clause", 2, going(tongue))
        bad(self, 2, "rule", tongue, 0, [VERB, thing, WHO, clause])
        bad(self, 0, "verb", tongue, 0, [VERB, WHO, thing, clause])
        bad(self, 1, "unlike", tongue, 0, [WHO, thing, clause, VERB])
        self.assertEqual(Saying(tongue, 0, [WHO, clause, WHOM, VERB]).size, 5)

    def test_unlike_is_asked_before_long(self):
        tongue = long_tongue()
        inner = Saying(tongue, 1, [("noun", "x", 0, 0, "one"), VERB])
        for _ in range(2):
            nouns = [("noun", "y", 0, role, "one") for role in range(5)]
            inner = Saying(tongue, 0, [*nouns, ("clause", 5, inner), VERB])
        bad(self, 1, "unlike", tongue, 2, [("noun", "y", 1, 0, "one"), ("clause", 5, inner), VERB])
        bad(self, 0, "verb", tongue, 2, [VERB, ("noun", "y", 1, 0, "one"), ("clause", 5, inner)])
        bad(self, 0, "long", tongue, 2, [("noun", "q", 1, 0, "one"), ("clause", 5, inner), VERB])


class EqualTest(unittest.TestCase):
    def test_equal(self):
        def made(tongue=None, stem="cat", number="many"):
            tongue = tongue or nesting()
            nouns = [WHO, ("clause", 2, going(tongue, stem)), (*WHOM[:4], number), VERB]
            return Saying(tongue, 0, nouns)
        saying = made()
        self.assertIs(saying == made(), True)
        self.assertIs(saying != made(), False)
        swapped = Saying(nesting(), 0, [WHOM, ("clause", 2, going(nesting())), WHO, VERB])
        for other in (made(nesting("free")), made(stem="cow"), made(number="one"), swapped, going(nesting()),
                      saying.said, nesting(), *STRANGE):
            self.assertIs(saying == other, False)
            self.assertIs(saying != other, True)
            self.assertIs(other == saying, False)

    def test_the_frame_counts(self):
        tongue = great()
        frames = [*tongue.frames[:3], Frame("j", (0,))]
        tongue = Tongue(tongue.roles, tongue.stocks, frames)
        noun = ("noun", "a", 0, 0, "one")
        self.assertNotEqual(Saying(tongue, 1, [noun, VERB]), Saying(tongue, 3, [noun, VERB]))


if __name__ == "__main__":
    unittest.main()
