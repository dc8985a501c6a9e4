"""[3.5] to [3.7]: rings, which tell misreadings of whole patterns."""

import unittest
from collections import Counter
from itertools import combinations, permutations, product
from random import Random

from looseorder.coincide import clear_frames, coinciding_couples, exchanges_of
from looseorder.errors import BadCounts, BadRing, NoFrame, NoRole
from looseorder.patterns import check_pattern
from looseorder.rings import Ring, led_back, ring_fault, ring_patterns, ring_taking, sure_nouns, taken_couples
from support import (NUMBERS, STRANGE, all_alike, are_tuples, four_stocks, great, nesting, one_frame, refuses,
                     roles_in, some_tongues, table_of, two_roles, walk_closure, walk_rings, walk_shown, words)


def tongues():
    return some_tongues(40, 35, 3) + [
        two_roles(), two_roles([(1, 0)]), nesting(agreed=1, rules=[(0, 3)]), four_stocks(), four_stocks([(3, 0)]),
        all_alike(1), all_alike(3), all_alike(3, [(0, 1)]), all_alike(3, [(0, 1)], 2), all_alike(3, [(0, 1), (1, 2)]),
        one_frame(words("ab bc ca", 3)), one_frame(words("ab bc ca", 3), (), 1),
        one_frame(words("ab bc ca", 3), [(0, 2)])]


def frames_of(tongues):
    return [(tongue, frame) for tongue in tongues for frame in range(len(tongue.frames))]


def all_steps(tongue, frame):
    """All rows of steps whose cells are shown alike, with goals that are the noun roles, each once."""
    nouns = tongue.frames[frame].nouns
    for goals in permutations(nouns):
        options = [[(role, goal, stock, number, mate) for stock in range(len(tongue.stocks))
                    for number, mate in product(NUMBERS, repeat=2)
                    if (role, number) in table_of(tongue, stock) and (goal, mate) in table_of(tongue, stock)
                    and table_of(tongue, stock)[role, number] == table_of(tongue, stock)[goal, mate]]
                   for role, goal in zip(nouns, goals)]
        yield from product(*options)


class LedBackTest(unittest.TestCase):
    def test_ordinary(self):
        self.assertEqual(led_back([(0, 1), (1, 2)], [(2, 0), (0, 1), (1, 2)]), ((0, 1), (2, 0)))
        self.assertEqual(led_back([(0, 1)], [(3, 0)]), ((3, 1),))
        self.assertEqual(led_back([(0, 1)], [(3, 1)]), ((0, 3),))
        self.assertEqual(led_back(((0, 1), (5, 1)), ()), ((0, 1), (5, 1)))
        self.assertEqual(led_back([], [(1, 0)]), ())

    def test_doubles_stay_and_come_ascending(self):
        self.assertEqual(led_back([[3, 1], [0, 1], [3, 1], [2, 1]], [[3, 2]]), ((0, 1), (3, 1), (3, 1), (3, 1)))
        self.assertEqual(led_back([(4, 0), (1, 0)], [(9, 1), (2, 4)]), ((2, 0), (9, 0)))

    def test_the_role_that_is_replaced_may_itself_stand_there(self):
        self.assertEqual(led_back([(0, 1)], [(1, 0)]), ((1, 1),))
        self.assertEqual(led_back([(0, 1), (1, 0)], [(1, 0), (0, 1)]), ((0, 1), (1, 0)))

    def test_nothing_changes(self):
        couples, pairs = [[2, 1], [0, 1]], [[1, 0]]
        self.assertTrue(are_tuples(led_back(couples, pairs)))
        self.assertEqual((couples, pairs), ([[2, 1], [0, 1]], [[1, 0]]))


class RightRingsTest(unittest.TestCase):
    def test_right_exactly_if_two_patterns_give_the_ring(self):
        found = 0
        for tongue, frame in frames_of(tongues()):
            rings = [steps for steps in all_steps(tongue, frame) if ring_fault(tongue, Ring(frame, steps)) is None]
            self.assertEqual(sorted(rings), walk_rings(tongue, frame))
            found += len(rings)
        self.assertGreater(found, 500)

    def test_patterns(self):
        for tongue, frame in frames_of(tongues()):
            for steps in walk_rings(tongue, frame)[::7]:
                self.check(tongue, frame, steps)

    def check(self, tongue, frame, steps):
        found = ring_patterns(tongue, Ring(frame, steps))
        self.assertTrue(isinstance(found, tuple) and len(found) == 2 and are_tuples(found))
        said, read = found
        self.assertEqual([check_pattern(tongue, frame, pattern) for pattern in found], [said, read])
        self.assertEqual(walk_shown(tongue, frame, said), walk_shown(tongue, frame, read))
        places = {(a[0], b[0], a[1], a[2], b[2]) for a, b in zip(said, read) if a[1] is not None}
        self.assertEqual(places, set(steps))
        clause = tongue.frames[frame].clause
        if clause is not None:
            self.assertEqual(roles_in(said).index(clause), roles_in(read).index(clause))

    def test_a_clause_in_between(self):
        # The clause must stand behind role 0 as said and behind role 1 as read.
        tongue = nesting().with_rules([(0, 2)]).with_ending(0, 0, "many", ("b",))
        for steps in walk_rings(tongue, 0):
            self.check(tongue, 0, steps)
        self.assertTrue(walk_rings(tongue, 0))

    def test_five_nouns_and_a_clause(self):
        source = Random(5)
        for tongue in (great(), great().with_rules([(0, 1), (5, 2), (3, 4)]), great().with_rules([(1, 5), (5, 3)])):
            right = 0
            for _ in range(400):
                goals = source.sample(range(5), 5)
                steps = tuple((role, goal, 0, "one", "one") for role, goal in enumerate(goals))
                ring = Ring(0, steps)
                demands = walk_closure(tongue.rules)
                rows = [row for row in permutations(range(6)) if self.keeps(row, demands, [*goals, 5])]
                what = "rest" if goals == [0, 1, 2, 3, 4] else None if rows else "order"
                self.assertEqual(ring_fault(tongue, ring), what)
                if what is None:
                    right += 1
                    self.check(tongue, 0, steps)
            self.assertGreater(right, 50)

    def keeps(self, row, closure, goals):
        """The row keeps the closure, as said and as read."""
        read = [goals[role] for role in row]
        return not any((row[j], row[i]) in closure or (read[j], read[i]) in closure
                       for j in range(6) for i in range(j))

    def test_three_steps_can_be_right_where_two_are_not(self):
        tongue = one_frame(words("ab bc ca", 3), [(0, 1), (1, 2)])
        self.assertEqual(walk_rings(tongue, 0), [])
        tongue = all_alike(3, [(0, 1)])
        ring = Ring(0, tuple((role, goal, 0, "one", "one") for role, goal in ((0, 1), (1, 2), (2, 0))))
        self.assertIsNone(ring_fault(tongue, ring))
        self.check(tongue, 0, ring.steps)


class FaultTest(unittest.TestCase):
    def setUp(self):
        self.tongue = four_stocks()
        self.steps = ((0, 1, 0, "one", "one"), (1, 0, 0, "one", "one"), (2, 2, 1, "many", "many"))

    def fault(self, what, steps, frame=0, tongue=None, counts=None):
        ring = Ring(frame, steps)
        told = tongue or self.tongue
        self.assertEqual(ring_fault(told, ring, counts), what, steps)
        if what not in (None, "many"):
            self.assertEqual(ring_fault(told, ring, [0] * len(told.stocks)), what, steps)
            refuses(self, BadRing, {"what": what}, ring_patterns, told, ring)

    def put(self, at, field, thing):
        steps = [list(step) for step in self.steps]
        steps[at][field] = thing
        return tuple(tuple(step) for step in steps)

    def test_right(self):
        # Role 0 is agreed; its step tells "one", and the step to it reads "one".
        self.fault(None, self.steps)
        self.fault(None, self.steps, counts=[2, 1, 0, 0])
        self.fault(None, self.steps, counts=(14, 14, 14, 14))

    def test_kind_and_frame(self):
        for thing in (*STRANGE, (0, self.steps), [0]):
            self.assertEqual(ring_fault(self.tongue, thing), "kind")
            refuses(self, BadRing, {"what": "kind"}, ring_patterns, self.tongue, thing)
        for frame in (4, -1, 10 ** 40, [0], *STRANGE):
            self.fault("frame", self.steps, frame)

    def test_steps(self):
        for steps in (*STRANGE, (), [], list(self.steps), self.steps[:2], (*self.steps, self.steps[2]),
                      self.steps[::-1], (self.steps[0],) * 3, {0: 1, 1: 2, 2: 3}):
            self.fault("steps", steps)
        for at, step in product(range(3), (*STRANGE, (), "abcde", self.steps[0][:4], (*self.steps[0], 1))):
            self.fault("steps", (*self.steps[:at], step, *self.steps[at + 1:]))
        for at in range(3):
            self.fault("steps", (*self.steps[:at], list(self.steps[at]), *self.steps[at + 1:]))
            for role in (*STRANGE, -1, 3, [at], float(at)):
                self.fault("steps", self.put(at, 0, role))
        self.fault("steps", self.steps, 1)

    def test_goal(self):
        for at in range(3):
            for goal in (*STRANGE, -1, 3, 4, 10 ** 40, [1]):
                self.fault("goal", self.put(at, 1, goal))
        self.fault("goal", self.put(0, 1, 0))
        self.fault("goal", self.put(2, 1, 1))

    def test_stock(self):
        for at in range(3):
            for stock in (*STRANGE, -1, 4, 10 ** 40, [0]):
                self.fault("stock", self.put(at, 2, stock))
        for at, stock in ((0, 1), (0, 2), (0, 3), (1, 1), (2, 2)):
            self.fault("stock", self.put(at, 2, stock))
        self.fault(None, self.put(2, 2, 3))

    def test_number(self):
        for at in range(3):
            for field in (3, 4):
                for number in (*STRANGE, 0, "two", ["one"]):
                    self.fault("number", self.put(at, field, number))

    def test_shown(self):
        self.fault("shown", self.put(0, 4, "many"))
        self.fault("shown", self.put(2, 3, "one"), tongue=four_stocks().with_ending(1, 2, "one", ("c",)))
        self.fault(None, self.put(2, 3, "one"))
        rest = (self.steps[0], (1, 2, 1, "many", "one"), (2, 0, 0, "one", "one"))
        self.fault("shown", rest)

    def test_rest(self):
        still = tuple((role, role, 0, "one", "one") for role in range(3))
        self.fault("rest", still)
        self.fault("rest", ((3, 3, 2, "one", "one"),), 2)
        self.fault("rest", tuple((role, role, 0, "one", "one") for role in range(3)), tongue=four_stocks([(0, 1)]))

    def test_agreed(self):
        alike = words("aa aa cd ef", 4)
        self.fault("agreed", self.put(0, 3, "many"), tongue=four_stocks().with_stock(0, alike))
        self.fault("agreed", self.put(1, 4, "many"), tongue=four_stocks().with_stock(0, alike))
        for at, field in ((0, 4), (1, 3)):
            self.fault(None, self.put(at, field, "many"), tongue=four_stocks().with_stock(0, alike))
        self.fault(None, self.put(0, 3, "many"), tongue=four_stocks(agreed=None).with_stock(0, alike))
        # The agreed role is at rest, said as "one" and read as "many".
        self.fault("agreed", self.put(2, 3, "one"), tongue=four_stocks(agreed=2))
        self.fault(None, self.put(2, 3, "one"), tongue=four_stocks(agreed=1))

    def test_order(self):
        for rules in ([(0, 1)], [(1, 0)], [(0, 3), (3, 1)], [(0, 2), (2, 1)]):
            self.fault("order", self.steps, tongue=four_stocks(rules))
        for rules in ([(0, 2)], [(2, 1)], [(0, 3)], [(2, 0), (2, 1)]):
            self.fault(None, self.steps, tongue=four_stocks(rules))

    def test_many(self):
        for counts in ([1, 1, 0, 0], [2, 0, 14, 14], (0, 0, 0, 0)):
            self.fault("many", self.steps, counts=counts)

    def test_counts_come_ahead_of_everything(self):
        for counts in (*STRANGE[1:], [1, 2, 3], [1, 2, 3, 15], [1, 2, 3, -1], [1, 2, 3, True]):
            refuses(self, BadCounts, {}, ring_fault, self.tongue, None, counts)
            refuses(self, BadCounts, {}, ring_fault, self.tongue, Ring(0, self.steps), counts)

    def test_nothing_changes(self):
        tongue, ring, counts = four_stocks(), Ring(0, self.steps), [2, 2, 2, 2]
        ring_fault(tongue, ring, counts)
        ring_patterns(tongue, ring)
        self.assertEqual((tongue, ring, counts), (four_stocks(), Ring(0, self.steps), [2, 2, 2, 2]))

    def test_two_faults(self):
        self.fault("frame", None, 9)
        self.fault("steps", ((0, 9, 9, 9, 9), (1, 9, 9, 9, 9), (9, 9, 9, 9, 9)))
        self.fault("goal", ((0, 1, 9, 9, 9), (1, 0, 9, 9, 9), (2, 1, 9, 9, 9)))
        # Each word is asked of all steps before the next one.
        self.fault("stock", ((0, 1, 0, 9, 9), (1, 0, 0, 9, 9), (2, 2, 9, 9, 9)))
        self.fault("number", ((0, 1, 0, "one", "many"), (1, 0, 0, "one", "one"), (2, 2, 0, "one", 9)))
        self.fault("shown", tuple((role, role, 0, "one", mate) for role, mate in enumerate(["one", "one", "many"])))
        self.fault("rest", tuple((role, role, 1 if role else 0, "one", "one") for role in range(3)),
                   counts=[0, 0, 0, 0])
        alike = words("aa aa cd ef", 4)
        self.fault("agreed", self.put(0, 3, "many"), tongue=four_stocks([(0, 1)]).with_stock(0, alike))
        still = ((0, 0, 0, "one", "many"), (1, 1, 0, "one", "one"), self.steps[2])
        self.fault("rest", still, tongue=four_stocks().with_stock(0, alike))
        self.fault("order", self.steps, tongue=four_stocks([(0, 1)]), counts=[0, 0, 0, 0])


class TakenTest(unittest.TestCase):
    def test_against_all_rings(self):
        for tongue, frame in frames_of(tongues()):
            rings = walk_rings(tongue, frame)
            steps = {(step[0], step[1]) for ring in rings for step in ring if step[0] != step[1]}
            taken = taken_couples(tongue, frame)
            self.assertEqual(taken, tuple(sorted(step for step in steps if step[0] < step[1])))
            self.assertEqual({(goal, role) for role, goal in steps}, steps)
            self.assertTrue(are_tuples(taken))
            met = {role for couple in taken for role in couple}
            sure = tuple(role for role in tongue.frames[frame].nouns if role not in met)
            self.assertEqual(sure_nouns(tongue, frame), sure)
            for role, goal in product(range(len(tongue.roles)), repeat=2):
                ring = ring_taking(tongue, frame, role, goal)
                self.assertEqual(ring is not None, (role, goal) in steps)
                if ring is not None:
                    self.assertIs(type(ring), Ring)
                    self.assertEqual(ring.frame, frame)
                    self.assertIn((role, goal), [step[:2] for step in ring.steps])
                    self.assertIn(ring.steps, rings)

    def test_what_is_said_for_all(self):
        for tongue, frame in frames_of(tongues() + [great()]):
            taken = taken_couples(tongue, frame)
            self.assertEqual(taken == (), frame in clear_frames(tongue))
            self.assertLessEqual({(e.role, e.other) for e in exchanges_of(tongue) if e.frame == frame}, set(taken))
            self.assertLessEqual(set(taken), set(coinciding_couples(tongue, frame)))
            struck = tongue.with_agreed(frame, None)
            self.assertLessEqual(set(taken), set(taken_couples(struck, frame)))

    def test_the_example_of_the_document(self):
        tongue = all_alike(3, [(0, 1)])
        self.assertEqual(taken_couples(tongue, 0), ((0, 1), (0, 2), (1, 2)))
        ring = ring_taking(tongue, 0, 0, 1)
        self.assertIsNone(ring_fault(tongue, ring))
        self.assertEqual(sure_nouns(tongue, 0), ())

    def test_the_agreed_role_matters(self):
        # 0 and 1 are in order, so they are taken for each other by three steps alone.
        tongue = one_frame(words("ab bc ca", 3), [(0, 1)])
        self.assertEqual(taken_couples(tongue, 0), ((0, 1), (0, 2), (1, 2)))
        for agreed in range(3):
            self.assertEqual(taken_couples(tongue.with_agreed(0, agreed), 0), ((0, 2), (1, 2)))
            self.assertIsNone(ring_taking(tongue.with_agreed(0, agreed), 0, 1, 0))
        self.assertIsNone(ring_taking(all_alike(3, [(0, 1), (1, 2)]), 0, 1, 0))

    def test_five_nouns(self):
        chain = [(role, role + 1) for role in range(4)]
        self.assertEqual(taken_couples(all_alike(5, chain), 0), ())
        self.assertEqual(sure_nouns(all_alike(5, chain), 0), (0, 1, 2, 3, 4))
        self.assertEqual(taken_couples(all_alike(5), 0), tuple(combinations(range(5), 2)))
        # Role 4 stands anywhere in a chain of the others, which it moves by one place.
        self.assertEqual(taken_couples(all_alike(5, chain[:3]), 0),
                         ((0, 1), (0, 4), (1, 2), (1, 4), (2, 3), (2, 4), (3, 4)))
        self.assertEqual(sure_nouns(all_alike(5, [(0, 1), (0, 2), (0, 3), (0, 4)]), 0), (0,))

    def test_equal_roles_and_roles_that_are_no_nouns_of_the_frame(self):
        tongue = four_stocks()
        for role, goal in ((0, 0), (0, 3), (3, 0), (3, 3)):
            self.assertIsNone(ring_taking(tongue, 0, role, goal))
        self.assertIsNone(ring_taking(nesting(), 0, 0, 2))
        self.assertIsNotNone(ring_taking(nesting(), 0, 0, 1))

    def test_wrong(self):
        for frame in (4, -1, *STRANGE):
            refuses(self, NoFrame, {"frame": frame}, taken_couples, nesting(), frame)
            refuses(self, NoFrame, {"frame": frame}, sure_nouns, nesting(), frame)
            refuses(self, NoFrame, {"frame": frame}, ring_taking, nesting(), frame, 9, 9)
        for role in (4, -1, 10 ** 40, *STRANGE):
            refuses(self, NoRole, {"role": role}, ring_taking, nesting(), 2, role, 9)
            refuses(self, NoRole, {"role": role}, ring_taking, nesting(), 2, 3, role)

    def test_each_stock_of_a_ring_bears_its_roles(self):
        used = Counter()
        for tongue in (four_stocks(), nesting()):
            for frame in range(len(tongue.frames)):
                for role, goal in taken_couples(tongue, frame):
                    for step in ring_taking(tongue, frame, goal, role).steps:
                        used[step[2]] += 1
                        self.assertIn(step[0], tongue.stocks[step[2]].borne)
        self.assertGreater(len(used), 1)


if __name__ == "__main__":
    unittest.main()
