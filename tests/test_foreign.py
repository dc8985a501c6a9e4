"""[8.10] to [8.14]: what a hearer of another tongue mistakes or misses."""

import unittest
from itertools import combinations, permutations

from looseorder.coincide import first_exchange
from looseorder.errors import BadPair, BadPattern, BadPool, NoFrame
from looseorder.foreign import (Missed, check_pair, foreign_readings, heard_word, least_changes, mistaken,
                                misheard_fault, pair_word, right_reading)
from looseorder.frames import Frame
from looseorder.patterns import plain_pattern
from looseorder.safety import Misheard, misheard_patterns
from looseorder.stocks import Stock
from looseorder.tongues import Tongue
from support import (NUMBERS, STRANGE, all_alike, are_tuples, great, nesting, one_frame, refuses, roles_in, some_pairs,
                     some_tongues, step_ranks, steps_from, table_of, tiny, two_roles, walk_closure, walk_orders,
                     walk_patterns, walk_readings, walk_shown, words)


def pairs():
    found = some_pairs(60, 131) + [(two_roles(), two_roles([(0, 1)])), (two_roles([(0, 1)]), two_roles())]
    three = [one_frame(words(text, 3), rules, 1) for text, rules in (
        ("ab cd ef", ()), ("ab cd fe", [(0, 1)]), ("cd ab ef", ()), ("ab bc ca", [(0, 2)]), ("ef ab cd", [(2, 0)]),
        # With the first one, three nouns are led round in one direction alone.
        ("ef ab cd", [(2, 1)]))]
    return found + [(one, other) for one in three for other in three]


def walk_couples(one, other, frame):
    """All patterns of one, each with all readings of it by other."""
    return [(said, walk_readings(other, frame, *walk_shown(one, frame, said))) for said in walk_patterns(one, frame)]


def walk_mistaken(one, other):
    """The frame, the order and the steps of the first Misheard, from all patterns and all their readings."""
    for frame, told in enumerate(one.frames):
        found = []
        for said, readings in walk_couples(one, other, frame):
            for read in readings:
                if roles_in(read) != roles_in(said):
                    steps = steps_from(said, read)
                    found.append(([step[1] for step in steps], roles_in(said), step_ranks(told.agreed, steps), steps))
        if found:
            least = min(found)
            return frame, least[1], least[3]
    return None


def misses(one, other, frame):
    """Whether some pattern has no foreign reading with its own roles."""
    return any(all(roles_in(read) != roles_in(said) for read in readings)
               for said, readings in walk_couples(one, other, frame))


def walk_missed(one, other):
    """The first thing missed, by the words of [8.13]."""
    for frame, told in enumerate(one.frames):
        for a, b in walk_closure(other.rules):
            if a in told.slots and b in told.slots and (a, b) not in walk_closure(one.rules):
                return Missed(frame, "rule", (a, b))
        for role in told.nouns:
            for stock in range(len(one.stocks)):
                table, heard = table_of(one, stock), table_of(other, stock)
                for number in NUMBERS:
                    mates = (number,) if role == told.agreed else NUMBERS
                    if (role, number) in table and table[role, number] not in [heard.get((role, m)) for m in mates]:
                        return Missed(frame, "ending", (role, stock, number))
    return None


class PairTest(unittest.TestCase):
    def test_pairs(self):
        for one, other in pairs():
            self.assertIsNone(check_pair(one, other))
            self.assertIsNone(check_pair(other, one))

    def unlike(self):
        one = nesting()
        yield one, Tongue(["who", "whom", "what", "fax"], one.stocks, one.frames)
        yield one, Tongue([*one.roles, "more"], one.stocks, one.frames)
        yield one, Tongue(one.roles, one.stocks[:1], one.frames)
        yield one, Tongue(one.roles, [Stock("other", one.stocks[0].table), one.stocks[1]], one.frames)
        yield one, Tongue(one.roles, [Stock("thing", one.stocks[0].table), Stock("noun", one.stocks[1].table)],
                          one.frames)
        yield one, nesting(agreed=1)
        yield one, Tongue(one.roles, one.stocks, one.frames[1:])
        yield one, Tongue(one.roles, one.stocks, [*one.frames[:3], Frame("feel", (1,), 2)])
        yield one, nesting("first")
        yield nesting("free"), nesting("first")

    def test_no_pairs(self):
        for one, other in self.unlike():
            for first, second in ((one, other), (other, one)):
                refuses(self, BadPair, {}, check_pair, first, second)
                refuses(self, BadPair, {}, foreign_readings, first, second, 9, None)
                refuses(self, BadPair, {}, heard_word, first, second, 9, None)
                refuses(self, BadPair, {}, mistaken, first, second)
                refuses(self, BadPair, {}, misheard_fault, first, second, Misheard(9, None, None))
                refuses(self, BadPair, {}, right_reading, first, second)
                refuses(self, BadPair, {}, pair_word, first, second)
                refuses(self, BadPair, {}, least_changes, first, second, None)

    def test_unlike_tables_and_rules_are_let(self):
        one = nesting()
        tables = [Stock("noun", [(role, ("q",), ("q",)) for role in (0, 3)]), Stock("thing", [(1, ("a",), ("b",))])]
        other = Tongue(one.roles, tables, one.frames, [(3, 1)])
        self.assertIsNone(check_pair(one, other))
        self.assertIsNone(check_pair(other, one))


class ReadingTest(unittest.TestCase):
    def test_against_a_walk(self):
        met = set()
        for one, other in pairs():
            for frame in range(len(one.frames)):
                for said, readings in walk_couples(one, other, frame)[::5]:
                    found = foreign_readings(one, other, frame, [list(entry) for entry in said])
                    self.assertEqual(found, tuple(readings))
                    self.assertTrue(are_tuples(found))
                    right = [roles_in(read) == roles_in(said) for read in readings]
                    word = "lost" if not right else "right" if all(right) else "both" if any(right) else "wrong"
                    self.assertEqual(heard_word(one, other, frame, said), word)
                    self.assertEqual(heard_word(one, other, frame, [list(entry) for entry in said]), word)
                    met.add(word)
        self.assertEqual(met, {"lost", "right", "wrong", "both"})

    def test_errors_in_their_order(self):
        one, other = nesting(), nesting(rules=[(0, 1)])
        for call in (foreign_readings, heard_word):
            for frame in (4, -1, "0", *STRANGE):
                refuses(self, NoFrame, {"frame": frame}, call, one, other, frame, None)
            refuses(self, BadPattern, {"index": 0, "what": "many"}, call, one, other, 1, None)
            right = [(0, 0, "one"), (1, 0, "one"), (3, 0, "one")]
            refuses(self, BadPattern, {"index": 1, "what": "role"}, call, one, other, 1, [right[0], right[0], right[2]])
            # The pattern is one of the tongue that is spoken; the other one's rules do not bind it.
            turned = [right[1], right[0], right[2]]
            self.assertEqual(call(one, other, 1, turned) in ((), "lost"), False)
            refuses(self, BadPattern, {"index": 1, "what": "rule"}, call, other, one, 1, turned)

    def test_nothing_changes(self):
        one, other, pattern = two_roles(), two_roles([(0, 1)]), [[1, 0, "one"], [0, 0, "one"]]
        foreign_readings(one, other, 0, pattern)
        heard_word(one, other, 0, pattern)
        self.assertEqual((one, other, pattern), (two_roles(), two_roles([(0, 1)]), [[1, 0, "one"], [0, 0, "one"]]))


class MistakenTest(unittest.TestCase):
    def test_exactly_and_the_first(self):
        kinds = set()
        for one, other in pairs():
            found = mistaken(one, other)
            walked = walk_mistaken(one, other)
            kinds.add(walked is None)
            if walked is None:
                self.assertIsNone(found)
                continue
            self.assertEqual((type(found), found.frame, found.order, found.steps), (Misheard, *walked))
            self.assertTrue(are_tuples((found.order, found.steps)))
            self.assertIsNone(misheard_fault(one, other, found))
            said, read = misheard_patterns(found)
            self.assertIn(read, foreign_readings(one, other, found.frame, said))
            self.assertIn(heard_word(one, other, found.frame, said), ("wrong", "both"))
        self.assertEqual(kinds, {True, False})

    def test_larger_pairs(self):
        for one, other in some_pairs(25, 132, 4):
            found = mistaken(one, other)
            patterns = sum(len(walk_patterns(one, frame)) for frame in range(len(one.frames)))
            if found is not None:
                self.assertIsNone(misheard_fault(one, other, found))
                said, read = misheard_patterns(found)
                self.assertIn(read, foreign_readings(one, other, found.frame, said))
            elif patterns < 600:
                self.assertIsNone(walk_mistaken(one, other))

    def test_great(self):
        one = great()
        found = mistaken(one, one)
        self.assertIsNone(misheard_fault(one, one, found))
        self.assertEqual((found.frame, pair_word(one, one)), (0, "wrong"))

    def test_with_itself(self):
        for tongue in some_tongues(40, 133, 3) + [two_roles([(0, 1)]), all_alike(3)]:
            self.assertEqual(mistaken(tongue, tongue) is None, first_exchange(tongue) is None)
            self.assertEqual(pair_word(tongue, tongue), "right" if first_exchange(tongue) is None else "wrong")
            self.assertIsNone(right_reading(tongue, tongue))

    def test_nothing_changes(self):
        one, other = two_roles(), two_roles([(1, 0)])
        mistaken(one, other)
        right_reading(one, other)
        pair_word(one, other)
        self.assertEqual((one, other), (two_roles(), two_roles([(1, 0)])))


class FaultTest(unittest.TestCase):
    """Three roles; one: 0 by a, b; 1 by c, d; 2 by e, f. other: the endings of 0 and 1 exchanged; agreed: 1."""

    def setUp(self):
        self.one = one_frame(words("ab cd ef", 3), [(0, 2)], 1)
        self.other = one_frame(words("cd ab ef", 3), [(1, 2)], 1)
        self.steps = [(0, 1, 0, "one", "one"), (1, 0, 0, "one", "one"), (2, 2, 0, "many", "many")]

    def fault(self, what, frame=0, order=(0, 1, 2), steps=None, one=None, other=None):
        told = Misheard(frame, order, self.steps if steps is None else steps)
        self.assertEqual(misheard_fault(one or self.one, other or self.other, told), what)

    def put(self, at, entry, thing):
        steps = [list(step) for step in self.steps]
        steps[at][entry] = thing
        return steps

    def test_right(self):
        self.fault(None)
        self.fault(None, steps=tuple(self.steps))
        self.fault(None, order=[0, 1, 2], steps=[list(step) for step in self.steps])
        self.fault(None, order=(1, 0, 2))
        self.fault(None, steps=self.put(2, 3, "many"))

    def test_frame(self):
        for frame in (1, -1, 10 ** 40, "0", [0], *STRANGE):
            self.fault("frame", frame)
            self.fault("frame", frame, None, 3)

    def test_order(self):
        for order in ([0, 1], [0, 1, 1], [2, 0, 1], [0, 2, 3], [0, 1, True], "012", *STRANGE):
            self.fault("order", order=order)
            self.fault("order", order=order, steps=3)
        # An order of the one is asked for, not of the other: both orders are none of the rule (0, 2).
        self.fault("order", order=(1, 2, 0))

    def test_steps(self):
        for steps in ([], self.steps[:2], [*self.steps, self.steps[2]], self.steps[::-1], *STRANGE):
            if steps is not None:
                self.fault("steps", steps=steps)
        for step in ((0, 1, 0, "one"), (0, 1, 0, "one", "one", 1), (1, 1, 0, "one", "one"), (False, 1, 0, "one", "one"),
                     "abcde", *STRANGE):
            self.fault("steps", steps=[step, *self.steps[1:]])
            self.fault("steps", steps=[step, (1, 9, 9, 9, 9), self.steps[2]])
        self.assertEqual(misheard_fault(self.one, self.other, Misheard(0, (0, 1, 2), None)), "steps")

    def test_goals(self):
        for goal in (0, 2, 3, -1, [1], "1", *STRANGE):
            self.fault("goals", steps=self.put(0, 1, goal))
            self.fault("goals", steps=[(0, goal, 9, "one", "one"), *self.steps[1:]])
        rest = [(role, role, 0, "one", "one") for role in range(3)]
        self.fault("goals", steps=rest, other=self.one)
        self.fault("goals", steps=[(role, role, 9, 9, 9) for role in range(3)])

    def test_stock(self):
        for stock in (1, -1, 10 ** 40, "0", [0], *STRANGE):
            self.fault("stock", steps=self.put(0, 2, stock))
            self.fault("stock", steps=self.put(2, 2, stock))
        # Each word is asked over all entries before the next one.
        steps = self.put(2, 2, 1)
        steps[0][3] = "two"
        self.fault("stock", steps=steps)

    def test_stock_of_each_tongue(self):
        """The stock bears the role in the one and the goal in the other."""
        roles, frames = ["p", "q"], [Frame("see", (0, 1))]
        full, first, second = [(0, ("a",), ("a",)), (1, ("a",), ("a",))], [(0, ("a",), ("a",))], [(1, ("a",), ("a",))]
        all_of = [Stock("n", full), Stock("m", full)]
        steps = [(0, 1, 1, "one", "one"), (1, 0, 0, "one", "one")]
        whole = Tongue(roles, all_of, frames)
        self.fault(None, 0, (0, 1), steps, whole, whole)
        self.fault(None, 0, (0, 1), steps, Tongue(roles, [all_of[0], Stock("m", first)], frames), whole)
        self.fault("stock", 0, (0, 1), steps, Tongue(roles, [all_of[0], Stock("m", second)], frames), whole)
        self.fault(None, 0, (0, 1), steps, whole, Tongue(roles, [all_of[0], Stock("m", second)], frames))
        self.fault("stock", 0, (0, 1), steps, whole, Tongue(roles, [all_of[0], Stock("m", first)], frames))

    def test_number(self):
        for number in (1, "two", ["one"], *STRANGE):
            for at in (0, 1, 2):
                self.fault("number", steps=self.put(at, 3, number))
                self.fault("number", steps=self.put(at, 4, number))
        steps = self.put(2, 4, "two")
        steps[0][3] = "many"
        self.fault("number", steps=steps)

    def test_shown(self):
        for at in (0, 1, 2):
            for entry in (3, 4):
                turned = "one" if self.steps[at][entry] == "many" else "many"
                self.fault("shown", steps=self.put(at, entry, turned))
        self.fault("shown", steps=self.put(2, 3, "one"), other=self.one)

    def test_agreed(self):
        steps = [(0, 1, 0, "one", "one"), (1, 0, 0, "many", "many"), self.steps[2]]
        self.fault("agreed", steps=steps)
        none = [tongue.with_agreed(0, None) for tongue in (self.one, self.other)]
        self.fault(None, steps=steps, one=none[0], other=none[1])
        # Ahead of "read".
        self.fault("agreed", steps=steps, other=self.other.with_rules([(2, 1)]))

    def test_read(self):
        self.fault("read", other=self.other.with_rules([(2, 1)]))
        self.fault("read", other=self.other.with_rules([(0, 1)]))
        self.fault(None, other=self.other.with_rules([(1, 0)]))
        self.fault("read", order=(1, 0, 2), other=self.other.with_rules([(1, 0)]))
        # Three nouns led round: what is read is the order led to its goals, not back from them.
        one, other = one_frame(words("ab cd ef", 3)), one_frame(words("ef ab cd", 3), [(1, 0)])
        steps = [(role, goal, 0, "one", "one") for role, goal in ((0, 1), (1, 2), (2, 0))]
        self.fault(None, 0, (1, 0, 2), steps, one, other)
        self.fault("read", 0, (2, 1, 0), steps, one, other)

    def test_the_clause_is_its_own_goal(self):
        one, other = tiny("last"), tiny("last", None, [(1, 0)])
        self.assertEqual(misheard_fault(one, one, Misheard(0, (0, 1), [(0, 0, 0, "one", "one")])), "goals")
        noun = Stock("n", [(0, ("a",), ("b",)), (1, ("a",), ("c",))])
        tongue = Tongue(["p", "q", "r"], [noun], [Frame("tell", (0, 1), 2), Frame("go", (0,))])
        steps = [(0, 1, 0, "one", "one"), (1, 0, 0, "one", "one")]
        self.assertIsNone(misheard_fault(tongue, tongue, Misheard(0, (0, 2, 1), steps)))
        self.assertIsNone(misheard_fault(tongue, tongue.with_rules([(1, 2)]), Misheard(0, (0, 2, 1), steps)))
        self.assertEqual(misheard_fault(tongue, tongue.with_rules([(2, 1)]), Misheard(0, (0, 2, 1), steps)), "read")
        self.assertIsNone(check_pair(one, other))

    def test_judges_the_first(self):
        for one, other in pairs():
            found = mistaken(one, other)
            if found is not None:
                self.fault(None, found.frame, list(found.order), [list(step) for step in found.steps], one, other)


class RightReadingTest(unittest.TestCase):
    def test_exactly_and_the_first(self):
        kinds = set()
        for one, other in pairs():
            missed = any(misses(one, other, frame) for frame in range(len(one.frames)))
            found = right_reading(one, other)
            self.assertEqual(found is not None, missed)
            self.assertEqual(found, walk_missed(one, other))
            word = "wrong" if walk_mistaken(one, other) is not None else "missed" if missed else "right"
            self.assertEqual(pair_word(one, other), word)
            kinds.add((word, found and found.what))
            if found is not None:
                self.assertEqual((type(found), type(found.detail)), (Missed, tuple))
        self.assertEqual({kind[0] for kind in kinds}, {"wrong", "missed", "right"})
        self.assertTrue({("missed", "rule"), ("missed", "ending")} <= kinds)

    def test_which(self):
        one = nesting(agreed=1)
        self.assertEqual(right_reading(one, nesting(agreed=1, rules=[(3, 2), (2, 0)])), Missed(0, "rule", (2, 0)))
        # The closure counts, also by a role that the frame lacks; a rule that the one has is none.
        self.assertEqual(right_reading(one, nesting(agreed=1, rules=[(0, 3), (3, 2)])), Missed(0, "rule", (0, 2)))
        self.assertIsNone(right_reading(nesting(agreed=1, rules=[(0, 2)]), nesting(agreed=1, rules=[(0, 2)])))
        self.assertEqual(right_reading(one, one.with_ending(0, 0, "one", ("q",))), Missed(0, "ending", (0, 0, "one")))
        self.assertEqual(right_reading(one, one.with_ending(1, 3, "one", ("q",))), None)
        self.assertEqual(right_reading(one, one.with_stock(1, [(1, ("a",), ("b",))])),
                         Missed(1, "ending", (3, 1, "one")))
        self.assertIsNone(right_reading(one.with_stock(1, [(1, ("a",), ("b",))]), one))
        # A rule of a frame is told ahead of its endings, and a frame ahead of the next one.
        other = nesting(agreed=1, rules=[(1, 3)]).with_ending(0, 3, "many", ("q",))
        self.assertEqual(right_reading(one, other), Missed(1, "rule", (1, 3)))
        other = other.with_ending(0, 1, "many", ("q",))
        self.assertEqual(right_reading(one, other), Missed(0, "ending", (1, 0, "many")))

    def test_numbers(self):
        """The agreed role must be found in its own number; any number does for the others."""
        one = one_frame(words("ab cd", 2), (), 0)
        self.assertEqual(right_reading(one, one_frame(words("ba cd", 2), (), 0)), Missed(0, "ending", (0, 0, "one")))
        self.assertIsNone(right_reading(one, one_frame(words("ab dc", 2), (), 0)))
        self.assertEqual(right_reading(one, one_frame(words("ab dd", 2), (), 0)), Missed(0, "ending", (1, 0, "one")))

    def test_result(self):
        made = Missed(0, "rule", [1, 2])
        self.assertEqual((made.frame, made.what, made.detail), (0, "rule", [1, 2]))
        self.assertNotEqual(made, Missed(0, "rule", (1, 2)))


class ChangesTest(unittest.TestCase):
    def walk(self, one, other, pool):
        for size in range(len(pool) + 1):
            good = []
            for lot in combinations(range(len(pool)), size):
                changed = other
                for place in lot:
                    changed = changed.with_ending(*pool[place])
                if walk_mistaken(one, changed) is None:
                    good.append(lot)
            if good:
                return tuple(good)
        return ()

    def test_against_all_lots(self):
        sizes = set()
        for at, (one, other) in enumerate(pairs()):
            if sum(len(walk_patterns(one, frame)) for frame in range(len(one.frames))) > 60:
                continue
            cells = [(stock, role, number) for stock, told in enumerate(other.stocks) for role in told.borne
                     for number in NUMBERS]
            pool = [(*cell, (part,)) for cell, part in zip(cells[at % 3:] or cells, "qaqb")][:1 + at % 4]
            found = least_changes(one, other, [list(entry) for entry in pool])
            self.assertEqual(found, self.walk(one, other, pool))
            self.assertEqual(found, least_changes(one, other, tuple(pool)))
            sizes.add(len(found[0]) if found else None)
        self.assertTrue(sizes >= {None, 0, 1})

    def test_which(self):
        one = one_frame(words("ab ac", 2))
        entries = [(0, 0, "one", ("q",)), (0, 1, "one", ("q",)), (0, 0, "many", ("x",)), (0, 1, "many", ("y",))]
        # Role 0 or 1 read by another ending; the others are not needed.
        self.assertEqual(mistaken(one, one).steps, ((0, 1, 0, "one", "one"), (1, 0, 0, "one", "one")))
        self.assertEqual(least_changes(one, one, entries), ((0,), (1,)))
        self.assertEqual(least_changes(one, one, entries[2:]), ())
        self.assertEqual(least_changes(one, one.with_rule(0, 1), entries), ((0,), (1,)))
        both = one.with_rule(0, 1)
        self.assertEqual(least_changes(both, both, entries), ((),))
        clear = one_frame(words("ab cd", 2))
        self.assertEqual(least_changes(clear, clear, [(0, 0, "one", ("c",))]), ((),))
        # Each role is shown by the other one's endings: two changes are needed.
        one, other = one_frame(words("aa bb", 2)), one_frame(words("bb aa", 2))
        entries = [(0, 0, "one", ("q",)), (0, 0, "many", ("q",)), (0, 1, "one", ("r",)), (0, 1, "many", ("r",))]
        self.assertEqual(least_changes(one, other, entries), ((0, 1), (2, 3)))
        self.assertEqual(least_changes(one, other, [entries[1], entries[3], entries[0], entries[2]]), ((0, 2), (1, 3)))

    def test_five_and_no_more(self):
        one, other = one_frame(words("aa bb", 2)), one_frame(words("bb aa", 2))
        entries = [(0, role, number, ("q",)) for role in (0, 1) for number in NUMBERS]
        self.assertEqual(least_changes(one, other, entries), ((0, 1), (2, 3)))
        noun = one_frame(words("aa bb cc", 3))
        pool = [(0, role, number, ("q",)) for role in (0, 1, 2) for number in NUMBERS][:5]
        self.assertEqual(least_changes(noun, noun, pool), ((),))
        refuses(self, BadPool, {"index": 0}, least_changes, noun, noun, [*pool, (0, 2, "many", ("q",))])

    def test_errors(self):
        one, other = nesting(), nesting(rules=[(0, 1)])
        right = (1, 1, "one", ("q",))
        for pool in ([], (), [right] * 6, *STRANGE):
            refuses(self, BadPool, {"index": 0}, least_changes, one, other, pool)
        wrong = [(1, 1, "one"), (1, 1, "one", ("q",), 0), (2, 1, "one", ("q",)), (-1, 1, "one", ("q",)),
                 (1, 0, "one", ("q",)), (1, 4, "one", ("q",)), (1, 1, "two", ("q",)), (1, 1, "one", ()),
                 (1, 1, "one", "q"), (True, 1, "one", ("q",)), (1, True, "one", ("q",)), (1, 1, True, ("q",)),
                 ([1], 1, "one", ("q",)), (1, [1], "one", ("q",)), (1, 1, ["one"], ("q",)), *STRANGE]
        for entry in wrong:
            refuses(self, BadPool, {"index": 0}, least_changes, one, other, [entry])
            refuses(self, BadPool, {"index": 1}, least_changes, one, other, [right, entry, None])
        refuses(self, BadPool, {"index": 2}, least_changes, one, other,
                [right, (0, 1, "one", ("q",)), [1, 1, "one", ["r"]], 3])
        # The role must be borne in the other tongue.
        lacking = one.with_stock(1, [(1, ("a",), ("b",))])
        refuses(self, BadPool, {"index": 0}, least_changes, one, lacking, [(1, 3, "one", ("q",))])
        least_changes(lacking, one, [(1, 3, "one", ("q",))])

    def test_nothing_changes(self):
        one, pool = two_roles(), [[0, 0, "one", ["q"]], [0, 1, "one", ["r"]]]
        least_changes(one, one, pool)
        self.assertEqual((one, pool), (two_roles(), [[0, 0, "one", ["q"]], [0, 1, "one", ["r"]]]))


class SafeTest(unittest.TestCase):
    def test_plain_patterns_of_a_right_pair_are_heard_right(self):
        for one, other in pairs():
            if pair_word(one, other) == "right":
                for frame in range(len(one.frames)):
                    self.assertEqual(heard_word(one, other, frame, plain_pattern(one, frame)), "right")

    def test_orders_of_goals(self):
        one, other = one_frame(words("ab cd ef", 3), [(0, 2)], 1), one_frame(words("cd ab ef", 3), [(1, 2)], 1)
        found = mistaken(one, other)
        self.assertEqual([step[1] for step in found.steps], [1, 0, 2])
        self.assertEqual(found.order, min(walk_orders(one, 0)))
        self.assertIn(found.order, list(permutations(range(3))))


if __name__ == "__main__":
    unittest.main()
