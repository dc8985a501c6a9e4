"""[0.3], [1.2] rules, their closure and rings."""

import unittest
from itertools import permutations, product

from looseorder.errors import BadRules
from looseorder.rulings import check_rules, closure_of, has_ring
from support import STRANGE, are_tuples, refuses, walk_closure


class CheckTest(unittest.TestCase):
    def test_ascending_and_each_once_in_tuples(self):
        found = check_rules(4, [[2, 3], (0, 1), [0, 1], (1, 2), (0, 3)])
        self.assertEqual(found, ((0, 1), (0, 3), (1, 2), (2, 3)))
        self.assertTrue(are_tuples(found))
        self.assertEqual(check_rules(3, ()), ())
        self.assertEqual(check_rules(3, []), ())
        self.assertEqual(check_rules(6, ([5, 0],)), ((5, 0),))

    def test_many(self):
        for rules in (*STRANGE, "", {(0, 1): 1}, iter([(0, 1)])):
            refuses(self, BadRules, {"index": 0, "what": "many"}, check_rules, 3, rules)

    def test_thirty_and_no_more(self):
        self.assertEqual(check_rules(2, [(0, 1)] * 30), ((0, 1),))
        refuses(self, BadRules, {"index": 0, "what": "many"}, check_rules, 2, [(0, 1)] * 31)
        refuses(self, BadRules, {"index": 0, "what": "many"}, check_rules, 2, ["x"] * 31)
        refuses(self, BadRules, {"index": 0, "what": "rule"}, check_rules, 2, ["x"] * 30)

    def test_rule(self):
        for rule in (*STRANGE, (), (0,), (0, 1, 2), (0, 0), (0, 3), (3, 0), (-1, 0), (0, True), (False, 1),
                     ("0", "1"), (None, 1), (10 ** 30, 0), "01", {0: 1, 1: 0}, ([0], [1])):
            refuses(self, BadRules, {"index": 0, "what": "rule"}, check_rules, 3, [rule])
            refuses(self, BadRules, {"index": 2, "what": "rule"}, check_rules, 3, ((0, 1), (1, 2), rule, (1, 1)))

    def test_the_roles_there_are(self):
        self.assertEqual(check_rules(2, [(1, 0)]), ((1, 0),))
        refuses(self, BadRules, {"index": 0, "what": "rule"}, check_rules, 1, [(0, 1)])

    def test_ring(self):
        for rules in ([(0, 1), (1, 0)], [(0, 1), (1, 2), (2, 0)], [(3, 2), (0, 1), (1, 2), (2, 3)]):
            refuses(self, BadRules, {"index": 0, "what": "ring"}, check_rules, 4, rules)

    def test_a_rule_is_asked_before_the_ring(self):
        refuses(self, BadRules, {"index": 2, "what": "rule"}, check_rules, 3, [(0, 1), (1, 0), (0, 9)])

    def test_what_is_passed_in_stays(self):
        rules = [[1, 2], [0, 1], [1, 2]]
        found = check_rules(3, rules)
        self.assertEqual(rules, [[1, 2], [0, 1], [1, 2]])
        rules[0][0] = 0
        self.assertEqual(found, ((0, 1), (1, 2)))


class ClosureTest(unittest.TestCase):
    def test_over_others(self):
        self.assertEqual(closure_of([(0, 1), [1, 2], (4, 0)]), ((0, 1), (0, 2), (1, 2), (4, 0), (4, 1), (4, 2)))
        self.assertEqual(closure_of(()), ())
        found = closure_of([[2, 1]])
        self.assertEqual(found, ((2, 1),))
        self.assertTrue(are_tuples(found))

    def test_any_whole_numbers(self):
        self.assertEqual(closure_of([(-3, 10 ** 20), (10 ** 20, 7)]), ((-3, 7), (-3, 10 ** 20), (10 ** 20, 7)))

    def test_rings(self):
        self.assertEqual(closure_of([(1, 1)]), ((1, 1),))
        self.assertEqual(closure_of([(0, 1), (1, 0)]), ((0, 0), (0, 1), (1, 0), (1, 1)))
        self.assertEqual(closure_of([(0, 1), (1, 2), (2, 1)]), ((0, 1), (0, 2), (1, 1), (1, 2), (2, 1), (2, 2)))

    def test_against_joined_couples(self):
        couples = [couple for couple in product(range(3), repeat=2)]
        for kept in product((False, True), repeat=9):
            rules = [couple for couple, keep in zip(couples, kept) if keep]
            closure = walk_closure(rules)
            self.assertEqual(closure_of(rules[::-1]), closure)
            self.assertIs(has_ring(rules), any(a == b for a, b in closure))

    def test_long_chains(self):
        rules = [(n, n + 1) for n in range(40)]
        self.assertEqual(closure_of(rules), tuple((a, b) for a in range(41) for b in range(a + 1, 41)))
        self.assertIs(has_ring(rules), False)
        self.assertIs(has_ring([*rules, (40, 0)]), True)

    def test_no_check(self):
        self.assertIs(has_ring([(5, 5)]), True)
        self.assertIs(has_ring([(7, 8)] * 40), False)
        self.assertIs(has_ring([]), False)

    def test_rows_keep_rules_exactly_if_they_keep_the_closure(self):
        rules = ((3, 0), (0, 2))
        kept = [row for row in permutations(range(4)) if all(row.index(a) < row.index(b) for a, b in rules)]
        held = [row for row in permutations(range(4))
                if all(row.index(a) < row.index(b) for a, b in closure_of(rules))]
        self.assertEqual(kept, held)


if __name__ == "__main__":
    unittest.main()
