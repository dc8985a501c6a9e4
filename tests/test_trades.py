"""[4.10]: which counts of endings and rules can stand in for each other."""

import unittest
from itertools import combinations, permutations, product

from looseorder.coincide import first_exchange
from looseorder.endings import fewest_endings
from looseorder.errors import BadTrade, NoStock, TooManyRoles
from looseorder.tongues import Tongue
from looseorder.trades import can_trade, trade_of, trade_tongue
from support import (STRANGE, all_alike, are_tuples, four_stocks, great, nesting, refuses, some_tongues, two_roles,
                     walk_closure, walk_is_clear)


def walk_can_trade(size):
    """All rows for which some table and some book make a frame of so many roles clear."""
    found = set()
    couples = list(permutations(range(size), 2))
    books = [(len(book), walk_closure(book)) for many in range(size) for book in combinations(couples, many)]
    books = [(many, closure) for many, closure in books if all(a != b for a, b in closure)]
    for endings in product(range(size), repeat=2 * size):
        alike = [(a, b) for a, b in combinations(range(size), 2)
                 if set(endings[2 * a:2 * a + 2]) & set(endings[2 * b:2 * b + 2])]
        for many, closure in books:
            if all((a, b) in closure or (b, a) in closure for a, b in alike):
                found.add((len(set(endings)), many))
    return sorted(found)


class CanTradeTest(unittest.TestCase):
    def test_against_all_tables_and_books(self):
        for size in (1, 2, 3):
            self.assertEqual(can_trade(size), tuple(walk_can_trade(size)))

    def test_rows(self):
        self.assertEqual(can_trade(1), ((1, 0),))
        self.assertEqual(can_trade(2), ((1, 1), (2, 0), (2, 1)))
        for size in range(1, 6):
            told = [row for row in product(range(1, size + 1), range(size)) if sum(row) >= size]
            self.assertEqual(can_trade(size), tuple(told))
            self.assertTrue(are_tuples(can_trade(size)))

    def test_size(self):
        for size in (0, 6, -1, 10 ** 40, *STRANGE):
            refuses(self, BadTrade, {"what": "size"}, can_trade, size)
            refuses(self, BadTrade, {"what": "size"}, trade_tongue, size, 0, 9)


class TradeTongueTest(unittest.TestCase):
    def test_all(self):
        for size in range(1, 6):
            for endings, rules in product(range(1, size + 1), range(size)):
                found = trade_tongue(size, endings, rules)
                if (endings, rules) not in can_trade(size):
                    self.assertIsNone(found)
                    continue
                self.assertIs(type(found), Tongue)
                self.assertEqual((len(found.roles), len(found.rules)), (size, rules))
                self.assertEqual((len(found.stocks), len(found.stocks[0].endings)), (1, endings))
                self.assertEqual(found.stocks[0].borne, tuple(range(size)))
                self.assertEqual([(frame.nouns, frame.clause) for frame in found.frames], [(tuple(range(size)), None)])
                self.assertIsNone(first_exchange(found))
                if size <= 4:
                    self.assertTrue(walk_is_clear(found, 0))

    def test_wrong(self):
        for endings in (0, 4, -1, 10 ** 40, *STRANGE):
            refuses(self, BadTrade, {"what": "endings"}, trade_tongue, 3, endings, 1)
            refuses(self, BadTrade, {"what": "endings"}, trade_tongue, 3, endings, 9)
        for rules in (-1, 3, 10 ** 40, *STRANGE):
            refuses(self, BadTrade, {"what": "rules"}, trade_tongue, 3, 3, rules)
            refuses(self, BadTrade, {"what": "rules"}, trade_tongue, 3, 1, rules)


class TradeOfTest(unittest.TestCase):
    def walk(self, tongue, stock):
        many = len(tongue.roles)
        least = []
        for size in range(many):
            books = [book for book in combinations(permutations(range(many), 2), size)
                     if all(a != b for a, b in walk_closure(book))]
            least.append(min(fewest_endings(tongue.with_rules(book), stock).least for book in books))
        return tuple(least)

    def test_against_all_books(self):
        for tongue in some_tongues(25, 410) + [two_roles(), nesting(), four_stocks([(0, 1)]), all_alike(4)]:
            for stock in range(len(tongue.stocks)):
                found = trade_of(tongue, stock)
                self.assertEqual(found, self.walk(tongue, stock))
                self.assertEqual((type(found), len(found)), (tuple, len(tongue.roles)))
                self.assertEqual(found[0], fewest_endings(tongue.with_rules([]), stock).least)
                self.assertTrue(all(least + rules >= found[0] for rules, least in enumerate(found)))

    def test_plain(self):
        self.assertEqual(trade_of(all_alike(1), 0), (1,))
        self.assertEqual(trade_of(all_alike(3), 0), (3, 2, 1))
        self.assertEqual(trade_of(all_alike(4, [(0, 1), (1, 2), (2, 3)]), 0), (4, 3, 2, 1))

    def test_stock(self):
        for stock in (1, -1, 10 ** 40, *STRANGE):
            refuses(self, NoStock, {"stock": stock}, trade_of, two_roles(), stock)
            refuses(self, NoStock, {"stock": stock}, trade_of, all_alike(5), stock)

    def test_too_many_roles(self):
        for tongue in (all_alike(5), great()):
            refuses(self, TooManyRoles, {"most": 4}, trade_of, tongue, 0)
        self.assertEqual(len(trade_of(all_alike(4), 0)), 4)

    def test_nothing_changes(self):
        tongue = nesting(rules=[(0, 1)])
        trade_of(tongue, 0)
        self.assertEqual(tongue, nesting(rules=[(0, 1)]))


if __name__ == "__main__":
    unittest.main()
