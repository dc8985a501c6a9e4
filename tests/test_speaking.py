"""[1.9] from patterns to sayings and back."""

import unittest

from looseorder.errors import BadPattern, NoFrame
from looseorder.frames import Frame
from looseorder.patterns import plain_pattern
from looseorder.sayings import Saying
from looseorder.speaking import has_same_roles, pattern_of, plain_saying, saying_of
from looseorder.stocks import Stock
from looseorder.tongues import Tongue
from support import STRANGE, are_tuples, great, nesting, refuses, some_tongues, two_roles, walk_patterns

VERB = ("verb",)


class PatternTest(unittest.TestCase):
    def test_of_the_outermost_clause(self):
        tongue = nesting("free")
        inner = Saying(tongue, 2, [VERB, ("noun", "c", 0, 0, "many")])
        said = [("noun", "b", 1, 1, "many"), VERB, ("clause", 2, inner), ("noun", "a", 0, 0, "one")]
        found = pattern_of(Saying(tongue, 0, said))
        self.assertEqual(found, ((1, 1, "many"), (2, None, None), (0, 0, "one")))
        self.assertTrue(are_tuples(found))


class SayingTest(unittest.TestCase):
    def test_stems_go_through_the_whole_saying_as_heard(self):
        tongue = nesting()
        saying = saying_of(tongue, 0, [[0, 0, "many"], [2, None, None], [1, 1, "one"]])
        self.assertEqual([item[1:] for item in saying.noun_items()],
                         [("a", 0, 0, "many"), ("b", 0, 0, "one"), ("c", 0, 1, "one"), ("d", 0, 3, "one"),
                          ("e", 1, 1, "one")])
        self.assertEqual((saying.tongue, saying.frame), (tongue, 0))

    def test_the_clause_is_the_plain_pattern_of_the_first_frame_without_one(self):
        tongue = nesting(rules=[(3, 1)])
        inner = plain_saying(tongue, 3).inner
        self.assertEqual(inner.frame, 1)
        self.assertEqual(pattern_of(inner), plain_pattern(tongue, 1))
        self.assertIsNone(inner.inner)

    def test_a_clause_in_front_in_the_middle_and_behind(self):
        stock = Stock("n", [(0, ("a",), ("b",)), (2, ("a",), ("b",))])
        tongue = Tongue(["a", "b", "c"], [stock], [Frame("f", (0, 2), 1), Frame("g", (0, 2))])
        for place in range(3):
            pattern = [(0, 0, "one"), (2, 0, "one")]
            pattern.insert(place, (1, None, None))
            saying = saying_of(tongue, 0, pattern)
            self.assertEqual([item[1] for item in saying.noun_items()], ["a", "b", "c", "d"])
            self.assertEqual([item[1] for item in saying.inner.noun_items()], [["a", "b"], ["b", "c"],
                                                                               ["c", "d"]][place])
            self.assertEqual(saying.said[place][0], "clause")

    def test_where_the_verbs_stand(self):
        for verbs, place in (("first", 0), ("last", -1), ("free", -1)):
            saying = plain_saying(nesting(verbs), 0)
            self.assertEqual(saying.said[place], VERB)
            self.assertEqual(saying.inner.said[place], VERB)

    def test_the_pattern_comes_back(self):
        for tongue in some_tongues(10, 4, 3):
            for frame in range(len(tongue.frames)):
                for pattern in walk_patterns(tongue, frame):
                    saying = saying_of(tongue, frame, pattern)
                    self.assertEqual(pattern_of(saying), pattern)
                    stems = [item[1] for item in saying.noun_items()]
                    self.assertEqual("".join(stems), "abcdefghij"[:len(stems)])

    def test_the_greatest(self):
        saying = plain_saying(great(), 0)
        self.assertEqual((saying.size, saying.depth), (8, 2))

    def test_errors(self):
        for frame in (*STRANGE, -1, 2):
            refuses(self, NoFrame, {"frame": frame}, saying_of, two_roles(), frame, None)
            refuses(self, NoFrame, {"frame": frame}, plain_saying, two_roles(), frame)
        right = [(0, 0, "one"), (1, 0, "one")]
        for index, what, pattern in ((0, "many", right[:1]), (1, "row", [right[0], 5]), (1, "role", [right[0]] * 2),
                                     (0, "stock", [(0, 1, "one"), right[1]]), (0, "number", [(0, 0, 1), right[1]])):
            refuses(self, BadPattern, {"index": index, "what": what}, saying_of, two_roles(), 0, pattern)
        refuses(self, BadPattern, {"index": 1, "what": "rule"}, saying_of, two_roles([(1, 0)]), 0, right)

    def test_plain_saying(self):
        for tongue in some_tongues(20, 5):
            for frame in range(len(tongue.frames)):
                plain = plain_saying(tongue, frame)
                self.assertEqual(plain, saying_of(tongue, frame, plain_pattern(tongue, frame)))
                self.assertEqual(pattern_of(plain), plain_pattern(tongue, frame))


class SameTest(unittest.TestCase):
    def made(self, tongue=None, stems="abc", numbers=("one", "one", "one"), stock=0, order=(0, 1, 2), frame=0):
        tongue = tongue or nesting("free")
        inner = Saying(tongue, 2, [("noun", stems[2], 0, 0, numbers[2]), VERB])
        items = [("noun", stems[0], 0, 0, numbers[0]), ("noun", stems[1], stock, 1, numbers[1]), ("clause", 2, inner)]
        return Saying(tongue, frame, [*[items[at] for at in order], VERB])

    def test_numbers_do_not_matter(self):
        for numbers in (("many", "one", "one"), ("one", "many", "one"), ("one", "one", "many"), ("many",) * 3):
            self.assertIs(has_same_roles(self.made(), self.made(numbers=numbers)), True)

    def test_tongues_do_not_matter(self):
        for other in (nesting("last"), nesting("free", 0), nesting("free", None, [(0, 1)])):
            self.assertIs(has_same_roles(self.made(), self.made(other)), True)

    def test_all_else_does(self):
        inner = Saying(nesting("free"), 2, [VERB, ("noun", "c", 0, 0, "one")])
        turned = Saying(nesting("free"), 0, [*self.made().said[:2], ("clause", 2, inner), VERB])
        ahead = Saying(nesting("free"), 0, [VERB, *self.made().said[:3]])
        for other in (self.made(stems="xbc"), self.made(stems="axc"), self.made(stems="abx"), self.made(stock=1),
                      self.made(order=(1, 0, 2)), self.made(order=(2, 0, 1)), turned, ahead):
            self.assertIs(has_same_roles(self.made(), other), False)
            self.assertIs(has_same_roles(other, self.made()), False)

    def test_frames_and_counts_of_items(self):
        stock = Stock("n", [(0, ("a",), ("b",))])
        tongue = Tongue(["a"], [stock], [Frame("f", (0,)), Frame("g", (0,))])
        one, other = [Saying(tongue, frame, [("noun", "a", 0, 0, "one"), VERB]) for frame in range(2)]
        self.assertIs(has_same_roles(one, other), False)
        self.assertIs(has_same_roles(one, one), True)
        self.assertIs(has_same_roles(plain_saying(nesting(), 0), plain_saying(nesting(), 3)), False)

    def test_tongues_whose_frames_have_other_slots(self):
        def made(frame, *items):
            stock = Stock("n", [(0, ("a",), ("b",)), (1, ("a",), ("b",))])
            return Saying(Tongue(["a", "b"], [stock], [frame, Frame("g", (0,))], (), "free"), 0, items)
        who, whom = [("noun", "x", 0, role, "one") for role in range(2)]
        short = made(Frame("f", (0,)), who, VERB)
        longer = made(Frame("f", (0, 1)), who, VERB, whom)
        self.assertIs(has_same_roles(short, longer), False)
        self.assertIs(has_same_roles(longer, short), False)
        clause = Tongue(["a", "b"], short.tongue.stocks, [Frame("f", (0,), 1), Frame("g", (0,))], (), "free")
        inner = Saying(clause, 1, [who, VERB])
        other = Saying(clause, 0, [who, VERB, ("clause", 1, inner)])
        self.assertIs(has_same_roles(longer, other), False)
        self.assertIs(has_same_roles(other, longer), False)

    def test_unlike_roles(self):
        tongue = two_roles()
        one = Saying(tongue, 0, [("noun", "a", 0, 0, "one"), ("noun", "b", 0, 1, "one"), VERB])
        other = Saying(tongue, 0, [("noun", "a", 0, 1, "one"), ("noun", "b", 0, 0, "one"), VERB])
        self.assertIs(has_same_roles(one, other), False)

    def test_clause_roles(self):
        def made(clause):
            stock = Stock("n", [(0, ("a",), ("b",))])
            tongue = Tongue(["a", "b", "c"], [stock], [Frame("f", (0,), clause), Frame("g", (0,))])
            return plain_saying(tongue, 0)
        self.assertIs(has_same_roles(made(1), made(1)), True)
        self.assertIs(has_same_roles(made(1), made(2)), False)


if __name__ == "__main__":
    unittest.main()
