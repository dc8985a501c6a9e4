"""[4.8]: the books that make a tongue clear and leave the most rows, or the most orders of a frame."""

import unittest
from collections import Counter
from itertools import combinations, permutations

from looseorder.coincide import first_exchange
from looseorder.errors import NoFrame
from looseorder.freest import Freest, freest, freest_in
from looseorder.needed import all_coinciding
from support import (STRANGE, all_alike, are_tuples, four_stocks, great, keeps, nesting, one_frame, refuses,
                     some_tongues, two_roles, walk_closure, walk_orders, words)


def tongues():
    return some_tongues(40, 48) + [two_roles([(1, 0)]), nesting(), four_stocks(), all_alike(1), all_alike(4),
                                   one_frame(words("ab bc cd de ea", 5)), one_frame(words("ab cd bc de", 4))]


def walk_books(tongue):
    """How many rows of all roles direct each book."""
    couples = all_coinciding(tongue)
    return Counter(tuple(sorted(couple if row.index(couple[0]) < row.index(couple[1]) else couple[::-1]
                                for couple in couples)) for row in permutations(range(len(tongue.roles))))


class FreestTest(unittest.TestCase):
    def test_most_rows(self):
        for tongue in tongues() + [great()]:
            books = walk_books(tongue)
            most = max(books.values())
            found = freest(tongue)
            self.assertIs(type(found), Freest)
            self.assertEqual((found.most, found.rules), (most, min(book for book in books if books[book] == most)))
            self.assertTrue(are_tuples(found.rules))
            self.assertIsNone(first_exchange(tongue.with_rules(found.rules)))

    def test_no_book_leaves_more(self):
        for tongue in tongues():
            many = len(tongue.roles)
            if many <= 3:
                most = freest(tongue).most
                rules = list(permutations(range(many), 2))
                for book in [book for size in range(4) for book in combinations(rules, size)]:
                    closure = walk_closure(book)
                    if all(a != b for a, b in closure) and first_exchange(tongue.with_rules(book)) is None:
                        rows = [row for row in permutations(range(many)) if keeps(closure, row)]
                        self.assertLessEqual(len(rows), most)

    def test_plain(self):
        self.assertEqual(freest(all_alike(1)), Freest(1, ()))
        self.assertEqual(freest(one_frame(words("ab cd ef", 3))), Freest(6, ()))
        self.assertEqual(freest(all_alike(3)), Freest(1, ((0, 1), (0, 2), (1, 2))))
        # 1 stands between two with which it coincides: both behind it leave two rows of six, as does both ahead.
        tongue = one_frame([(0, ("a",), ("b",)), (1, ("a",), ("c",)), (2, ("c",), ("d",))])
        self.assertEqual(freest(tongue), Freest(2, ((0, 1), (2, 1))))
        self.assertEqual(freest(tongue.with_rules([(0, 1), (1, 2)])), Freest(2, ((0, 1), (2, 1))))


class FreestInTest(unittest.TestCase):
    def test_most_orders(self):
        for tongue in tongues():
            books = walk_books(tongue)
            for frame in range(len(tongue.frames)):
                orders = {book: len(walk_orders(tongue.with_rules(book), frame)) for book in books}
                most = max(orders.values())
                found = freest_in(tongue, frame)
                self.assertIs(type(found), Freest)
                self.assertEqual((found.most, found.rules),
                                 (most, min(book for book in books if orders[book] == most)))
                self.assertTrue(are_tuples(found.rules))

    def test_another_book_than_that_of_all_roles(self):
        unlike = [tongue for tongue in tongues() for frame in range(len(tongue.frames))
                  if freest_in(tongue, frame).rules != freest(tongue).rules]
        self.assertGreater(len(unlike), 0)

    def test_great(self):
        found = freest_in(great(), 3)
        self.assertEqual(found.most, 1)
        self.assertIsNone(first_exchange(great().with_rules(found.rules)))

    def test_frame(self):
        for frame in (4, -1, 10 ** 40, *STRANGE):
            refuses(self, NoFrame, {"frame": frame}, freest_in, nesting(), frame)

    def test_nothing_changes(self):
        tongue = nesting(rules=[(0, 3)])
        freest(tongue)
        freest_in(tongue, 1)
        self.assertEqual(tongue, nesting(rules=[(0, 3)]))


if __name__ == "__main__":
    unittest.main()
