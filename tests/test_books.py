"""[4.3]: books of rules, what parts two of them, and the least book."""

import copy
import unittest
from itertools import combinations, permutations
from random import Random

from looseorder.books import Parting, count_rows, least_book, parting_fault, parting_of
from looseorder.errors import BadRules
from support import STRANGE, are_tuples, keeps, refuses, walk_closure


def some_books(count, seed, most=6):
    """Books without a ring, the same ones in each run, with rules twice now and then."""
    source = Random(seed)
    for _ in range(count):
        size = source.randint(1, most)
        row = source.sample(range(size), size)
        share = source.choice([0.2, 0.5, 0.9])
        book = [couple for couple in combinations(row, 2) if source.random() < share]
        source.shuffle(book)
        yield size, book + book[:source.randint(0, 2)]


def walk_rows(size, book):
    """All rows of all roles that keep the rules as they are told."""
    return [row for row in permutations(range(size)) if keeps(set(map(tuple, book)), row)]


class CountRowsTest(unittest.TestCase):
    def test_ordinary(self):
        self.assertEqual([count_rows(size, ()) for size in range(1, 7)], [1, 2, 6, 24, 120, 720])
        self.assertEqual(count_rows(3, [(0, 1)]), 3)
        self.assertEqual(count_rows(6, [(role, role + 1) for role in range(5)]), 1)
        self.assertEqual(count_rows(4, [[0, 1], [2, 3], [0, 1]]), 6)

    def test_against_all_rows(self):
        for size, book in some_books(60, 43):
            self.assertEqual(count_rows(size, book), len(walk_rows(size, book)))


class PartingTest(unittest.TestCase):
    def test_none_exactly_if_the_same_rows_keep_both(self):
        source = Random(430)
        none = 0
        for size, one in some_books(150, 431, 4):
            row = source.sample(range(size), size)
            other = [couple for couple in combinations(row, 2) if source.random() < 0.4]
            if source.random() < 0.3:
                other = list(walk_closure(one))
            parting = parting_of(size, one, other)
            self.assertEqual(parting is None, walk_rows(size, one) == walk_rows(size, other))
            none += parting is None
            if parting is not None:
                self.assertIs(type(parting), Parting)
                self.assertTrue(are_tuples((parting.rule, parting.row)))
                self.assertIsNone(parting_fault(size, one, other, parting))
                self.assertIsNone(parting_fault(size, other, one, parting))
        self.assertGreater(none, 20)

    def test_six_roles(self):
        for size, book in some_books(40, 432):
            for rule in book[:2]:
                fewer = [other for other in book if other != rule]
                parting = parting_of(size, book, fewer)
                if parting is None:
                    self.assertEqual(walk_closure(book), walk_closure(fewer))
                else:
                    self.assertIsNone(parting_fault(size, book, fewer, parting))
                    self.assertIn(parting.row, walk_rows(size, fewer))

    def test_turned_rules(self):
        parting = parting_of(2, [(0, 1)], [(1, 0)])
        self.assertIn((parting.rule, parting.row), [((0, 1), (1, 0)), ((1, 0), (0, 1))])

    def test_nothing_changes(self):
        one, other = [[2, 1], [1, 0]], [[2, 0]]
        kept = copy.deepcopy((one, other))
        parting_fault(3, one, other, parting_of(3, one, other))
        count_rows(3, one)
        least_book(3, one)
        self.assertEqual((one, other), kept)

    def test_wrong(self):
        for call in (lambda one, other: parting_of(3, one, other),
                     lambda one, other: parting_fault(3, one, other, Parting(None, None))):
            refuses(self, BadRules, {"index": 0, "what": "many"}, call, None, [(0, 0)])
            refuses(self, BadRules, {"index": 1, "what": "rule"}, call, [(0, 1), (0, 3)], None)
            refuses(self, BadRules, {"index": 0, "what": "ring"}, call, [(0, 1), (1, 0)], None)
            refuses(self, BadRules, {"index": 0, "what": "many"}, call, [], [(0, 1)] * 31)
            refuses(self, BadRules, {"index": 2, "what": "rule"}, call, [], [(0, 1), (1, 2), (2, 2)])
            refuses(self, BadRules, {"index": 0, "what": "ring"}, call, [], [(0, 1), (1, 2), (2, 0)])


class PartingFaultTest(unittest.TestCase):
    def fault(self, what, rule, row, size=4, one=((0, 1), (1, 2)), other=((2, 3),)):
        self.assertEqual(parting_fault(size, one, other, Parting(rule, row)), what, (rule, row))
        self.assertEqual(parting_fault(size, other, one, Parting(rule, row)), what, (rule, row))

    def test_right(self):
        self.fault(None, (0, 1), (1, 0, 2, 3))
        self.fault(None, (0, 2), (2, 3, 0, 1))
        self.fault(None, (2, 3), (0, 3, 1, 2))
        self.fault(None, [0, 2], [2, 3, 0, 1])

    def test_rule(self):
        for rule in (*STRANGE, (), (0,), (0, 1, 2), "01", [0, 1, 2], (0, True), (0, 1.0), (None, 1), ([0], [1]),
                     {0: 1, 1: 2}, (10 ** 40, 0)):
            self.fault("rule", rule, (1, 0, 2, 3))
        for rule in ((0, 3), (1, 0), (0, 0), (3, 2), (1, 3), (-1, 0), (4, 5)):
            self.fault("rule", rule, (1, 0, 2, 3))
        self.fault("rule", (0, 1), (1, 0), 2, [(0, 1)], [[0, 1]])

    def test_row(self):
        for row in (*STRANGE, (), (1, 0, 2), (1, 0, 2, 3, 4), (1, 0, 2, 2), (1, 0, 2, 4), (1, 0, 2, -1),
                    (True, 0, 2, 3), (1, False, 2, 3), (1, 0, 2.0, 3), ("1", 0, 2, 3), ([1], 0, 2, 3), "1023"):
            self.fault("row", (0, 1), row)

    def test_turned(self):
        self.fault("turned", (0, 1), (0, 1, 2, 3))
        self.fault("turned", (0, 1), (2, 0, 3, 1))
        self.fault("turned", (2, 3), (0, 1, 2, 3))

    def test_keeps(self):
        # The book without the rule must be kept, the one that has it need not be.
        self.fault("keeps", (0, 1), (1, 0, 3, 2))
        self.fault(None, (0, 1), (2, 1, 0, 3))
        self.fault("keeps", (2, 3), (3, 1, 0, 2))
        self.fault("keeps", (2, 3), (3, 0, 2, 1))

    def test_all_rules_and_rows(self):
        one, other = [(0, 1), (2, 0)], [(0, 1), (1, 3)]
        first, second = set(walk_closure(one)), set(walk_closure(other))
        for rule in permutations(range(4), 2):
            for row in permutations(range(4)):
                lacking = second if rule in first else first
                right = (rule in first) != (rule in second) and row.index(rule[0]) > row.index(rule[1])
                right = right and keeps(lacking, row)
                self.assertEqual(parting_fault(4, one, other, Parting(rule, row)) is None, right)

    def test_two_faults(self):
        self.fault("rule", (0, 3), None)
        self.fault("row", (0, 1), (0, 1, 3, 2, 2))
        self.fault("turned", (0, 1), (0, 1, 3, 2))


class LeastBookTest(unittest.TestCase):
    def test_ordinary(self):
        self.assertEqual(least_book(3, [(1, 2), (0, 2), (0, 1)]), ((0, 1), (1, 2)))
        self.assertEqual(least_book(3, []), ())
        self.assertEqual(least_book(1, ()), ())
        self.assertEqual(least_book(4, [[3, 0], [0, 1], [3, 1], [3, 0], [3, 2]]), ((0, 1), (3, 0), (3, 2)))

    def test_all_books_with_that_closure_have_its_rules(self):
        for size, book in some_books(40, 433, 4):
            closure = walk_closure(book)
            with_it = [rules for many in range(len(closure) + 1) for rules in combinations(closure, many)
                       if walk_closure(rules) == closure]
            self.assertEqual(least_book(size, book), with_it[0])
            self.assertEqual([rules for rules in with_it if len(rules) == len(with_it[0])], with_it[:1])
            for rules in with_it:
                self.assertLessEqual(set(with_it[0]), set(rules))

    def test_six_roles(self):
        chain = tuple((role, role + 1) for role in range(5))
        self.assertEqual(least_book(6, list(combinations(range(6), 2))), chain)
        for size, book in some_books(60, 434):
            found = least_book(size, book)
            self.assertEqual(walk_closure(found), walk_closure(book))
            for rule in found:
                self.assertNotEqual(walk_closure([other for other in found if other != rule]), walk_closure(book))

    def test_wrong(self):
        for call in (count_rows, least_book):
            for book in (*STRANGE, [(0, 1)] * 31, {(0, 1): 1}):
                refuses(self, BadRules, {"index": 0, "what": "many"}, call, 3, book)
            for rule in (*STRANGE, (0, 3), (1, 1), (0, -1), (0, True), (0, 1, 2), "01"):
                refuses(self, BadRules, {"index": 1, "what": "rule"}, call, 3, [(0, 1), rule])
            refuses(self, BadRules, {"index": 0, "what": "ring"}, call, 3, [(0, 1), (1, 2), (2, 0)])
            refuses(self, BadRules, {"index": 0, "what": "rule"}, call, 1, [(0, 1), (1, 0)])
            self.assertIsNotNone(call(3, [(0, 1)] * 30))


if __name__ == "__main__":
    unittest.main()
