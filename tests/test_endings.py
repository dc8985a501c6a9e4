"""[4.5], [4.6]: the fewest endings that tell roles, and those that tell numbers too."""

import unittest
from itertools import combinations, product

from looseorder.chains import widest
from looseorder.coincide import first_exchange
from looseorder.endings import (Fewest, FewestPairs, conflict_web, fewest_endings, fewest_for_numbers, with_fewest)
from looseorder.errors import NoStock
from looseorder.frames import Frame
from looseorder.stocks import Stock
from looseorder.tongues import Tongue
from support import (NUMBERS, STRANGE, all_alike, are_tuples, four_stocks, great, nesting, refuses, some_tongues,
                     table_of, two_roles, walk_alike, walk_closure)


def tongues():
    return some_tongues(60, 45) + [two_roles(), nesting(), nesting(rules=[(0, 3), (3, 1)]), four_stocks(),
                                   four_stocks([(1, 3), (3, 2)]), all_alike(1), all_alike(4, [(0, 1), (2, 3)], 2)]


def web_tongue(frames, many, rules=(), agreed=None):
    """Frames of these noun roles; one stock bears all of them."""
    told = [Frame("f" + chr(97 + at), nouns, None, agreed if agreed in nouns else None)
            for at, nouns in enumerate(frames)]
    stock = Stock("noun", [(role, ("a",), ("a",)) for role in range(many)])
    return Tongue(["r" + chr(97 + role) for role in range(many)], [stock], told, rules)


def pentagon(agreed=None):
    """0 to 4 in a ring, each beside the next one and the one before alone."""
    return web_tongue([[0, 1], [1, 2], [2, 3], [0, 3, 4]], 5, [(0, 3)], agreed)


def stocks_of(tongues):
    return [(tongue, stock) for tongue in tongues for stock in range(len(tongue.stocks))]


def walk_web(tongue, stock):
    closure = walk_closure(tongue.rules)
    borne = {role for role, _ in table_of(tongue, stock)}
    return {couple for frame in tongue.frames for couple in combinations(frame.nouns, 2)
            if set(couple) <= borne and couple not in closure and couple[::-1] not in closure}


def needs_two(tongue, role):
    return any(role in frame.nouns and frame.agreed != role for frame in tongue.frames)


def borne(tongue, stock):
    return sorted({role for role, _ in table_of(tongue, stock)})


class WebTest(unittest.TestCase):
    def test_against_all_frames(self):
        for tongue, stock in stocks_of(tongues() + [great(), pentagon()]):
            found = conflict_web(tongue, stock)
            self.assertEqual(found, tuple(sorted(walk_web(tongue, stock))))
            self.assertTrue(are_tuples(found))

    def test_clear_exactly_if_no_couple_of_a_web_shares_an_ending(self):
        for tongue in tongues():
            alike = [1 for stock in range(len(tongue.stocks)) for couple in conflict_web(tongue, stock)
                     if {table_of(tongue, stock)[couple[0], number] for number in NUMBERS}
                     & {table_of(tongue, stock)[couple[1], number] for number in NUMBERS}]
            self.assertEqual(first_exchange(tongue) is None, alike == [])

    def test_roles_of_unlike_frames(self):
        tongue = web_tongue([[0, 1], [1, 2]], 3)
        self.assertEqual(conflict_web(tongue, 0), ((0, 1), (1, 2)))
        self.assertEqual(conflict_web(pentagon(), 0), ((0, 1), (0, 4), (1, 2), (2, 3), (3, 4)))
        self.assertEqual(conflict_web(nesting(), 1), ((1, 3),))

    def test_stock(self):
        for stock in (2, -1, 10 ** 40, *STRANGE):
            for call in (conflict_web, fewest_endings, fewest_for_numbers):
                refuses(self, NoStock, {"stock": stock}, call, nesting(), stock)


class FewestTest(unittest.TestCase):
    def walk(self, tongue, stock):
        """The first row of colours of the least count, from all rows."""
        roles = borne(tongue, stock)
        web = walk_web(tongue, stock)
        least = 1
        while True:
            for colours in product(range(least), repeat=len(roles)):
                told = dict(zip(roles, colours))
                if all(told[a] != told[b] for a, b in web):
                    return least, tuple(zip(roles, colours))
            least += 1

    def test_against_all_colours(self):
        for tongue, stock in stocks_of(tongues() + [great(), pentagon(), great().with_rules([])]):
            found = fewest_endings(tongue, stock)
            self.assertIs(type(found), Fewest)
            self.assertTrue(are_tuples(found.colours))
            self.assertEqual((found.least, found.colours), self.walk(tongue, stock))

    def test_one_frame_needs_as_many_as_are_all_side_by_side(self):
        for rules in ([], [(0, 1)], [(0, 1), (1, 2)], [(0, 2), (1, 3), (4, 3)], [(3, 0), (0, 4)]):
            tongue = all_alike(5, rules)
            self.assertEqual(fewest_endings(tongue, 0).least, len(widest(tongue, (0, 1, 2, 3, 4)).lot))

    def test_several_frames_can_need_more(self):
        self.assertEqual(fewest_endings(pentagon(), 0).least, 3)
        self.assertEqual(fewest_endings(pentagon(), 0).colours, ((0, 0), (1, 1), (2, 0), (3, 1), (4, 2)))
        frames = [[0, 1, 2, 3, 4], [1, 2, 3, 4, 5], [0, 5]]
        self.assertEqual(fewest_endings(web_tongue(frames, 6), 0).least, 6)

    def test_the_table_now_does_not_matter(self):
        for tongue, stock in stocks_of(tongues()[:20]):
            found = fewest_endings(tongue, stock)
            told = [(role, (chr(97 + role),), ("", "")) for role in borne(tongue, stock)]
            self.assertEqual(fewest_endings(tongue.with_stock(stock, told), stock), found)

    def test_a_further_rule_never_makes_it_greater(self):
        for tongue, stock in stocks_of(tongues()[::2] + [pentagon()]):
            least = fewest_endings(tongue, stock).least
            closure = walk_closure(tongue.rules)
            for a, b in combinations(range(len(tongue.roles)), 2):
                if (a, b) not in closure and (b, a) not in closure:
                    self.assertLessEqual(fewest_endings(tongue.with_rule(a, b), stock).least, least)

    def test_colours_come_behind_all_lesser_ones(self):
        for tongue, stock in stocks_of(tongues() + [great(), pentagon()]):
            for row in ([colour for _, colour in fewest_endings(tongue, stock).colours],
                        [c for row in fewest_for_numbers(tongue, stock).pairs for c in row[1:]]):
                first = sorted(set(row), key=row.index)
                self.assertEqual(first, list(range(len(first))))


class NumbersTest(unittest.TestCase):
    def walk(self, tongue, stock):
        """The first row of pairs of the least count, from all rows of at most four roles."""
        roles = borne(tongue, stock)
        web = walk_web(tongue, stock)
        least = 1
        while True:
            pairs = list(product(range(least), repeat=2))
            for told in product(pairs, repeat=len(roles)):
                table = dict(zip(roles, told))
                if all(not set(table[a]) & set(table[b]) for a, b in web) and all(
                        table[role][0] != table[role][1] for role in roles if needs_two(tongue, role)):
                    return least, tuple((role, *pair) for role, pair in zip(roles, told))
            least += 1

    def test_against_all_pairs(self):
        for tongue, stock in stocks_of(tongues()):
            if len(borne(tongue, stock)) <= 3:
                found = fewest_for_numbers(tongue, stock)
                self.assertIs(type(found), FewestPairs)
                self.assertTrue(are_tuples(found.pairs))
                self.assertEqual((found.least, found.pairs), self.walk(tongue, stock))

    def check_right(self, tongue, stock, found):
        table = {role: {one, many} for role, one, many in found.pairs}
        self.assertEqual(sorted(table), borne(tongue, stock))
        self.assertTrue(all(not table[a] & table[b] for a, b in walk_web(tongue, stock)))
        self.assertTrue(all(len(table[role]) == 2 for role in table if needs_two(tongue, role)))
        self.assertTrue(all(0 <= colour < found.least for pair in table.values() for colour in pair))

    def lots(self, tongue, stock):
        """The counts of lots whose couples are all in the web and of their roles that need two, added."""
        web = walk_web(tongue, stock)
        return [len(lot) + sum(needs_two(tongue, role) for role in lot) for size in range(7)
                for lot in combinations(borne(tongue, stock), size) if all(c in web for c in combinations(lot, 2))]

    def test_bounds(self):
        for tongue, stock in stocks_of(tongues() + [great(), great().with_rules([]), pentagon(), pentagon(4)]):
            found = fewest_for_numbers(tongue, stock)
            self.check_right(tongue, stock, found)
            sums = self.lots(tongue, stock)
            self.assertGreaterEqual(found.least, max(sums))
            if any(set(borne(tongue, stock)) <= set(frame.nouns) for frame in tongue.frames):
                self.assertEqual(found.least, max(sums))

    def test_plain(self):
        self.assertEqual(fewest_for_numbers(all_alike(1), 0), FewestPairs(2, ((0, 0, 1),)))
        self.assertEqual(fewest_for_numbers(all_alike(1, (), 0), 0), FewestPairs(1, ((0, 0, 0),)))
        self.assertEqual(fewest_for_numbers(all_alike(2, (), 0), 0), FewestPairs(3, ((0, 0, 0), (1, 1, 2))))
        self.assertEqual(fewest_for_numbers(all_alike(2, [(1, 0)], 0), 0), FewestPairs(2, ((0, 0, 0), (1, 0, 1))))
        self.assertEqual(fewest_for_numbers(all_alike(5), 0).least, 10)
        # The agreed role of one frame needs two endings if another frame has it, too.
        tongue = web_tongue([[0, 1]], 2, (), 0)
        more = Tongue(tongue.roles, tongue.stocks, [*tongue.frames, Frame("g", [0])])
        self.assertEqual([fewest_for_numbers(told, 0).least for told in (tongue, more)], [3, 4])

    def test_six_roles(self):
        frames = [[0, 1, 2, 3, 4], [1, 2, 3, 4, 5], [0, 5]]
        self.assertEqual(fewest_for_numbers(web_tongue(frames, 6), 0).least, 12)
        # In a ring of five no two that are neighbours share one of two colours each.
        self.assertEqual(fewest_for_numbers(pentagon(), 0), FewestPairs(
            5, ((0, 0, 1), (1, 2, 3), (2, 0, 4), (3, 1, 2), (4, 3, 4))))

    def test_a_role_that_no_frame_has(self):
        stock = Stock("n", [(0, ("a",), ("a",)), (1, ("a",), ("a",))])
        tongue = Tongue(["r", "s"], [stock], [Frame("f", [0])])
        self.assertEqual(fewest_for_numbers(tongue, 0).pairs, ((0, 0, 1), (1, 0, 0)))
        self.assertEqual(fewest_endings(tongue, 0), Fewest(1, ((0, 0), (1, 0))))


class WithFewestTest(unittest.TestCase):
    def check(self, tongue, numbers):
        found = with_fewest(tongue, numbers=numbers)
        self.assertIs(type(found), Tongue)
        self.assertEqual((found.roles, found.frames, found.rules, found.verbs),
                         (tongue.roles, tongue.frames, tongue.rules, tongue.verbs))
        for at, stock in enumerate(found.stocks):
            if numbers:
                rows = fewest_for_numbers(tongue, at).pairs
            else:
                rows = [(role, colour, colour) for role, colour in fewest_endings(tongue, at).colours]
            letters = "abcdefghijkl"
            self.assertEqual(stock.table, tuple((r, (letters[one],), (letters[many],)) for r, one, many in rows))
            self.assertEqual(stock.name, tongue.stocks[at].name)
        return found

    def test_tables_and_clear(self):
        for tongue in tongues() + [great(), pentagon()]:
            found = self.check(tongue, False)
            self.assertEqual(found, with_fewest(tongue))
            self.assertIsNone(first_exchange(found))
            self.assertIsNone(first_exchange(self.check(tongue, True)))

    def test_wholly_clear(self):
        for tongue in tongues():
            found = with_fewest(tongue, numbers=True)
            for frame in range(len(found.frames)):
                self.assertEqual({len(lot) for lot in walk_alike(found, frame)}, {1})

    def test_twelve_letters(self):
        frames = [[0, 1, 2, 3, 4], [1, 2, 3, 4, 5], [0, 5]]
        found = with_fewest(web_tongue(frames, 6), numbers=True)
        self.assertEqual(found.stocks[0].table[5], (5, ("k",), ("l",)))

    def test_numbers_is_passed_by_keyword(self):
        with self.assertRaises(TypeError):
            with_fewest(two_roles(), True)

    def test_nothing_changes(self):
        tongue = nesting()
        with_fewest(tongue, numbers=True)
        self.assertEqual(tongue, nesting())


if __name__ == "__main__":
    unittest.main()
