"""[0.2], [0.3], [0.10], [1.5], [1.6] tongues."""

import unittest
from itertools import product

from looseorder.errors import (BadEnding, BadFrame, BadNumber, BadRules, BadStock, BadTongue, NoFrame, NoRole,
                               NoRule, NoStock)
from looseorder.frames import Frame
from looseorder.stocks import Stock
from looseorder.tongues import Tongue, check_frame, check_role, check_stock
from support import STRANGE, are_tuples, great, nesting, refuses, some_tongues, walk_closure

NOUN = Stock("noun", [(0, ("a",), ("b",)), (1, ("c",), ("d",))])
FAR = Stock("far", [(2, ("a",), ("b",))])
SEE = Frame("see", (0, 1))
SAY = Frame("say", (0,), 1)


def bad(test, index, what, *args, **more):
    refuses(test, BadTongue, {"index": index, "what": what}, Tongue, *args, **more)


class CheckTest(unittest.TestCase):
    def test_right_ones_come_back(self):
        tongue = nesting()
        self.assertEqual([check_role(tongue, role) for role in range(4)], [0, 1, 2, 3])
        self.assertEqual([check_stock(tongue, stock) for stock in range(2)], [0, 1])
        self.assertEqual([check_frame(tongue, frame) for frame in range(4)], [0, 1, 2, 3])
        self.assertEqual([check_role(great(), 5), check_stock(great(), 3), check_frame(great(), 3)], [5, 3, 3])

    def test_wrong_ones(self):
        tongue = nesting()
        for thing in (*STRANGE, -1, 4, 10 ** 30, [0], "0"):
            refuses(self, NoRole, {"role": thing}, check_role, tongue, thing)
            refuses(self, NoStock, {"stock": thing}, check_stock, tongue, thing)
            refuses(self, NoFrame, {"frame": thing}, check_frame, tongue, thing)
        refuses(self, NoStock, {"stock": 2}, check_stock, tongue, 2)


class MakeTest(unittest.TestCase):
    def test_attributes(self):
        tongue = Tongue(["who", "whom", "far"], [NOUN, FAR], [SEE, SAY], [[1, 2], (0, 1), (0, 1)], "free")
        self.assertEqual(tongue.roles, ("who", "whom", "far"))
        self.assertEqual(tongue.stocks, (NOUN, FAR))
        self.assertEqual(tongue.frames, (SEE, SAY))
        self.assertEqual(tongue.rules, ((0, 1), (1, 2)))
        self.assertEqual(tongue.verbs, "free")
        self.assertEqual(tongue.closure, ((0, 1), (0, 2), (1, 2)))
        for rows in (tongue.roles, tongue.stocks, tongue.frames, tongue.rules, tongue.closure):
            self.assertTrue(are_tuples(rows))

    def test_defaults(self):
        tongue = Tongue(("who", "whom"), (NOUN,), (SEE,))
        self.assertEqual((tongue.rules, tongue.verbs, tongue.closure), ((), "last", ()))
        self.assertEqual(Tongue(("who", "whom"), (NOUN,), (SEE,), verbs="first").verbs, "first")
        self.assertEqual(Tongue(("who", "whom"), (NOUN,), (SEE,), rules=[(1, 0)]).rules, ((1, 0),))

    def test_the_greatest_and_the_least(self):
        tongue = great()
        self.assertEqual((len(tongue.roles), len(tongue.stocks), len(tongue.frames)), (6, 4, 4))
        self.assertEqual(tongue.closure, ((0, 3), (0, 5), (3, 5)))
        one = Tongue(["a"], [Stock("n", [(0, ("",), ("",))])], [Frame("f", [0])])
        self.assertEqual(one.roles, ("a",))

    def test_roles(self):
        for roles in (*STRANGE, [], (), list("abcdefg"), "ab", {"a": 1}):
            bad(self, 0, "roles", roles, [NOUN], [SEE])

    def test_role(self):
        for name in (*STRANGE[:5], *STRANGE[6:], "", "abcdefghi", "A", "who", ["x"], "a1"):
            bad(self, 1, "role", ["who", name], [NOUN], [SEE])
        bad(self, 3, "role", ["a", "b", "c", "b", ""], [NOUN], [SEE])

    def test_stocks(self):
        many = [Stock(name, NOUN.table) for name in "abcde"]
        for stocks in (*STRANGE, [], (), many, NOUN, {0: NOUN}):
            bad(self, 0, "stocks", ["who", "whom"], stocks, [SEE])
        self.assertEqual(len(Tongue(["who", "whom"], many[:4], [SEE]).stocks), 4)

    def test_stock(self):
        for stock in (*STRANGE, SEE, ("far", FAR.table), FAR, Stock("noun", [(0, ("x",), ("y",))])):
            bad(self, 1, "stock", ["who", "whom"], [NOUN, stock, FAR], [SEE])
        bad(self, 0, "stock", ["who", "whom"], [FAR], [SEE])
        bad(self, 0, "stock", ["who", "whom"], [Stock("n", [*NOUN.table, (5, ("a",), ("b",))])], [SEE])

    def test_frames(self):
        many = [Frame(name, SEE.nouns) for name in "abcde"]
        for frames in (*STRANGE, [], (), many, SEE, {0: SEE}):
            bad(self, 0, "frames", ["who", "whom"], [NOUN], frames)
        self.assertEqual(len(Tongue(["who", "whom"], [NOUN], many[:4]).frames), 4)

    def test_frame(self):
        for frame in (*STRANGE, NOUN, Frame("see", (0,)), Frame("far", (0, 2)), Frame("far", (0,), 2)):
            bad(self, 1, "frame", ["who", "whom"], [NOUN], [SEE, frame, Frame("x", (5,))])
        bad(self, 0, "frame", ["who", "whom"], [NOUN], [Frame("x", (2,))])

    def test_borne(self):
        names = ["who", "whom", "far"]
        bad(self, 1, "borne", names, [NOUN], [SEE, Frame("f", (0, 2)), Frame("g", (2,))])
        bad(self, 0, "borne", names, [FAR], [SAY])
        self.assertEqual(len(Tongue(names, [NOUN], [SEE, Frame("f", (0,), 2)]).frames), 2)
        self.assertEqual(len(Tongue(names, [FAR, NOUN], [Frame("f", (0, 1, 2))]).frames), 1)

    def test_clause(self):
        bad(self, 0, "clause", ["who", "whom"], [NOUN], [SAY])
        bad(self, 0, "clause", ["who", "whom"], [NOUN], [SAY, Frame("x", (1,), 0)])

    def test_rules(self):
        for rules in (*STRANGE, [(0, 1)] * 31, "", {(0, 1): 1}):
            bad(self, 0, "rules", ["who", "whom"], [NOUN], [SEE], rules)
        self.assertEqual(Tongue(["who", "whom"], [NOUN], [SEE], [(0, 1)] * 30).rules, ((0, 1),))

    def test_rule_and_ring(self):
        for rule in (*STRANGE, (0, 0), (0, 2), (2, 0), (-1, 0), (0, True), (0,), (0, 1, 1), "01"):
            bad(self, 1, "rule", ["who", "whom"], [NOUN], [SEE], [(0, 1), rule])
        bad(self, 0, "ring", ["who", "whom"], [NOUN], [SEE], [(0, 1), (1, 0)])

    def test_verbs(self):
        for verbs in (*STRANGE, "First", "middle", ["last"], ("free",), 0):
            bad(self, 0, "verbs", ["who", "whom"], [NOUN], [SEE], (), verbs)
        for verbs in ("first", "last", "free"):
            self.assertEqual(Tongue(["who", "whom"], [NOUN], [SEE], (), verbs).verbs, verbs)

    def test_which_is_asked_first(self):
        names = ["who", "whom"]
        ring = [(0, 1), (1, 0)]
        bad(self, 0, "roles", [], [], [], 0, "x")
        bad(self, 0, "role", ["", ""], [], [], 0, "x")
        bad(self, 0, "stocks", names, [], [], 0, "x")
        bad(self, 0, "stock", names, [0], [], 0, "x")
        bad(self, 0, "frames", names, [NOUN], [], 0, "x")
        bad(self, 0, "frame", names, [NOUN], [0], 0, "x")
        bad(self, 0, "borne", [*names, "far"], [NOUN], [Frame("x", (2,), 0)], 0, "x")
        bad(self, 1, "frame", [*names, "far"], [NOUN], [Frame("x", (2,), 0), 0], 0, "x")
        bad(self, 0, "clause", names, [NOUN], [SAY], 0, "x")
        bad(self, 0, "rules", names, [NOUN], [SEE], 0, "x")
        bad(self, 2, "rule", names, [NOUN], [SEE], [*ring, 0], "x")
        bad(self, 0, "ring", names, [NOUN], [SEE], ring, "x")

    def test_what_is_passed_in_stays_and_is_not_kept(self):
        roles, stocks, frames, rules = ["who", "whom"], [NOUN], [SEE], [[0, 1]]
        tongue = Tongue(roles, stocks, frames, rules)
        self.assertEqual((roles, stocks, frames, rules), (["who", "whom"], [NOUN], [SEE], [[0, 1]]))
        roles[0] = "x"
        stocks.append(FAR)
        frames[0] = SAY
        rules[0][0] = 5
        self.assertEqual(tongue, Tongue(("who", "whom"), (NOUN,), (SEE,), ((0, 1),)))
        self.assertEqual(tongue.closure, ((0, 1),))

    def test_equal(self):
        tongue = Tongue(["who", "whom"], [NOUN], [SEE], [(0, 1)])
        other_stock = Stock("noun", NOUN.table)
        other_frame = Frame("see", (0, 1))
        self.assertIs(tongue == Tongue(("who", "whom"), (other_stock,), (other_frame,), [[0, 1], (0, 1)]), True)
        self.assertIs(tongue != Tongue(("who", "whom"), (other_stock,), (other_frame,), [[0, 1]]), False)
        for other in (Tongue(["who", "what"], [NOUN], [SEE], [(0, 1)]),
                      Tongue(["who", "whom", "far"], [NOUN], [SEE], [(0, 1)]),
                      Tongue(["who", "whom"], [Stock("m", NOUN.table)], [SEE], [(0, 1)]),
                      Tongue(["who", "whom"], [NOUN], [Frame("see", (0, 1), None, 1)], [(0, 1)]),
                      Tongue(["who", "whom"], [NOUN], [SEE], [(1, 0)]), Tongue(["who", "whom"], [NOUN], [SEE]),
                      Tongue(["who", "whom"], [NOUN], [SEE], [(0, 1)], "free"), NOUN, SEE, *STRANGE):
            self.assertIs(tongue == other, False)
            self.assertIs(tongue != other, True)
            self.assertIs(other == tongue, False)

    def test_told_rules_count_and_not_the_closure(self):
        table = [(role, ("a",), ("b",)) for role in range(3)]
        tongues = [Tongue("a b c".split(), [Stock("n", table)], [Frame("f", (0, 1, 2))], rules)
                   for rules in ([(0, 1), (1, 2)], [(0, 1), (1, 2), (0, 2)])]
        self.assertEqual(tongues[0].closure, tongues[1].closure)
        self.assertNotEqual(tongues[0], tongues[1])


class AskTest(unittest.TestCase):
    def test_ahead_and_beside(self):
        for tongue in some_tongues(40, 1, 6):
            closure = walk_closure(tongue.rules)
            self.assertEqual(tongue.closure, closure)
            for role, other in product(range(len(tongue.roles)), repeat=2):
                self.assertIs(tongue.is_ahead(role, other), (role, other) in closure)
                beside = role != other and (role, other) not in closure and (other, role) not in closure
                self.assertIs(tongue.are_beside(role, other), beside)

    def test_over_a_role_that_the_frame_lacks(self):
        tongue = nesting(rules=[(0, 3), (3, 1)])
        self.assertIs(tongue.is_ahead(0, 1), True)
        self.assertIs(tongue.is_ahead(1, 0), False)
        self.assertIs(tongue.are_beside(1, 0), False)
        self.assertIs(tongue.are_beside(2, 0), True)
        self.assertIs(tongue.are_beside(2, 2), False)

    def test_ending_at(self):
        tongue = nesting()
        self.assertEqual(tongue.ending_at(0, 0, "many"), ("a", "s"))
        self.assertEqual(tongue.ending_at(0, 3, "one"), ("",))
        self.assertEqual(tongue.ending_at(1, 3, "many"), ("b",))
        self.assertIsNone(tongue.ending_at(1, 0, "one"))
        self.assertIsNone(tongue.ending_at(0, 2, "many"))

    def test_these_check_nothing(self):
        self.assertIs(nesting().is_ahead(7, 8), False)
        self.assertIs(nesting().are_beside(7, -8), True)
        self.assertIsNone(nesting().ending_at(0, 99, "one"))


class WithTest(unittest.TestCase):
    def changed(self, tongue, **more):
        told = {name: getattr(tongue, name) for name in ("roles", "stocks", "frames", "rules", "verbs")}
        return Tongue(**{**told, **more})

    def test_with_rule(self):
        tongue = nesting(rules=[(0, 3)])
        self.assertEqual(tongue.with_rule(3, 1), self.changed(tongue, rules=((0, 3), (3, 1))))
        self.assertEqual(tongue.with_rule(3, 1).closure, ((0, 1), (0, 3), (3, 1)))
        self.assertEqual(tongue.with_rule(0, 3), tongue)
        self.assertEqual(tongue.rules, ((0, 3),))
        self.assertEqual(tongue.with_rule(3, 1).with_rule(0, 1).rules, ((0, 1), (0, 3), (3, 1)))

    def test_with_rule_refuses(self):
        tongue = nesting(rules=[(0, 3), (3, 1)])
        for thing in (*STRANGE, -1, 4, [0]):
            refuses(self, NoRole, {"role": thing}, tongue.with_rule, thing, 9)
            refuses(self, NoRole, {"role": thing}, tongue.with_rule, 0, thing)
        for ahead, behind in ((1, 0), (3, 0), (1, 3), (2, 2), (0, 0)):
            refuses(self, BadTongue, {"index": 0, "what": "ring"}, tongue.with_rule, ahead, behind)

    def test_without_rule(self):
        tongue = nesting(rules=[(0, 3), (3, 1)])
        self.assertEqual(tongue.without_rule(0, 3), self.changed(tongue, rules=((3, 1),)))
        self.assertEqual(tongue.without_rule(3, 1).closure, ((0, 3),))
        self.assertEqual(len(tongue.rules), 2)
        for thing in (*STRANGE, -1, 4, [0]):
            refuses(self, NoRole, {"role": thing}, tongue.without_rule, thing, 9)
            refuses(self, NoRole, {"role": thing}, tongue.without_rule, 0, thing)
        for ahead, behind in ((0, 1), (3, 0), (2, 2)):
            refuses(self, NoRule, {}, tongue.without_rule, ahead, behind)

    def test_with_rules(self):
        tongue = nesting(rules=[(0, 3)])
        self.assertEqual(tongue.with_rules([[3, 0], (1, 0), (3, 0)]), self.changed(tongue, rules=((1, 0), (3, 0))))
        self.assertEqual(tongue.with_rules(()), self.changed(tongue, rules=()))
        for index, what, rules in ((0, "many", None), (0, "many", [(0, 1)] * 31), (1, "rule", [(0, 1), (0, 4)]),
                                   (0, "ring", [(0, 1), (1, 0)])):
            refuses(self, BadRules, {"index": index, "what": what}, tongue.with_rules, rules)

    def test_with_stock(self):
        tongue = nesting()
        table = [[1, ["q"], ["r"]]]
        expected = (tongue.stocks[0], Stock("thing", [(1, ("q",), ("r",))]))
        found = tongue.with_stock(1, table)
        table[0][0] = 0
        self.assertEqual(found, self.changed(tongue, stocks=expected))
        self.assertNotEqual(found, tongue)

    def test_with_stock_refuses(self):
        tongue = nesting()
        for thing in (*STRANGE, -1, 2, [0]):
            refuses(self, NoStock, {"stock": thing}, tongue.with_stock, thing, None)
        refuses(self, BadStock, {"what": "table"}, tongue.with_stock, 0, ())
        refuses(self, BadStock, {"what": "row"}, tongue.with_stock, 0, [0])
        refuses(self, BadStock, {"what": "role"}, tongue.with_stock, 0, [(6, ("a",), ("a",))])
        refuses(self, BadStock, {"what": "ending"}, tongue.with_stock, 0, [(0, "a", ("a",))])
        refuses(self, BadTongue, {"index": 1, "what": "stock"}, tongue.with_stock, 1, [(4, ("a",), ("a",))])
        refuses(self, BadTongue, {"index": 0, "what": "borne"}, tongue.with_stock, 0, [(1, ("a",), ("a",))])

    def test_with_ending(self):
        tongue = nesting()
        found = tongue.with_ending(1, 3, "one", ["q", ""])
        table = [(1, ("a",), ("b",)), (3, ("q", ""), ("b",))]
        self.assertEqual(found, self.changed(tongue, stocks=(tongue.stocks[0], Stock("thing", table))))
        found = tongue.with_ending(0, 0, "many", ("z",))
        self.assertEqual(found.ending_at(0, 0, "many"), ("z",))
        self.assertEqual(found.ending_at(0, 0, "one"), ("a",))
        self.assertEqual(found.stocks[1], tongue.stocks[1])
        self.assertEqual(tongue.ending_at(0, 0, "many"), ("a", "s"))

    def test_with_ending_refuses(self):
        tongue = nesting()
        for thing in (*STRANGE, -1, 2, [0]):
            refuses(self, NoStock, {"stock": thing}, tongue.with_ending, thing, 9, "x", ())
        for thing in (*STRANGE, -1, 4, 0, 2, [0]):
            refuses(self, NoRole, {"role": thing}, tongue.with_ending, 1, thing, "x", ())
        for thing in (*STRANGE, "two", 0, ["one"]):
            refuses(self, BadNumber, {}, tongue.with_ending, 1, 3, thing, ())
        for thing in (*STRANGE, (), "a", ("abcd",), ["a"] * 5):
            refuses(self, BadEnding, {}, tongue.with_ending, 1, 3, "many", thing)

    def test_with_agreed(self):
        tongue = nesting()
        frames = list(tongue.frames)
        frames[0] = Frame("say", (0, 1), 2, 1)
        self.assertEqual(tongue.with_agreed(0, 1), self.changed(tongue, frames=frames))
        self.assertEqual(tongue.with_agreed(2, None).frames[2], Frame("go", (0,)))
        self.assertEqual(tongue.with_agreed(0, 1).with_agreed(0, None), tongue)
        for thing in (*STRANGE, -1, 4, [0]):
            refuses(self, NoFrame, {"frame": thing}, tongue.with_agreed, thing, 9)
        for thing in (*STRANGE[1:], 2, 3, -1, "0"):
            refuses(self, BadFrame, {"what": "agreed"}, tongue.with_agreed, 0, thing)

    def test_with_verbs(self):
        tongue = nesting()
        for verbs in ("first", "last", "free"):
            self.assertEqual(tongue.with_verbs(verbs), self.changed(tongue, verbs=verbs))
        for verbs in (*STRANGE, "Free", ["last"]):
            refuses(self, BadTongue, {"index": 0, "what": "verbs"}, tongue.with_verbs, verbs)

    def test_the_tongue_itself_never_changes(self):
        tongue = nesting(rules=[(0, 3)])
        tongue.with_rule(0, 1)
        tongue.without_rule(0, 3)
        tongue.with_rules([])
        tongue.with_stock(1, [(1, ("a",), ("a",))])
        tongue.with_ending(0, 0, "one", ("k",))
        tongue.with_agreed(0, 0)
        tongue.with_verbs("first")
        self.assertEqual(tongue, nesting(rules=[(0, 3)]))


if __name__ == "__main__":
    unittest.main()
