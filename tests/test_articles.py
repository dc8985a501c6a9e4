"""[5.8] to [5.12]: articles, the cells that need unlike parts, and how few parts are enough."""

import copy
import unittest
from itertools import combinations, product
from random import Random

from looseorder.articles import (Articles, article_lot, article_web, articles_fault, check_article, least_articles,
                                 with_article)
from looseorder.coincide import exchanges_of, first_exchange
from looseorder.doubts import same_numbers
from looseorder.errors import BadArticle, BadStock, NoStock
from looseorder.frames import Frame
from looseorder.stocks import Stock
from looseorder.tongues import Tongue
from support import (NUMBERS, STRANGE, all_alike, are_tuples, four_stocks, great, nesting, one_frame, refuses,
                     some_tongues, table_of, two_roles, walk_closure, words)


def tongues():
    return some_tongues(40, 58, 3) + [two_roles(), nesting(agreed=1), nesting(rules=[(0, 1), (1, 3)]), four_stocks(),
                                      all_alike(1), all_alike(1, (), 0), all_alike(3, [(0, 1)], 2),
                                      one_frame(words("aa ab bb", 3)), one_frame(words("aa ba ab", 3), [(0, 1)], 1)]


def stocks_of(tongues):
    return [(tongue, stock) for tongue in tongues for stock in range(len(tongue.stocks))]


def cells_of(tongue, stock):
    return [(row[0], number) for row in tongue.stocks[stock].table for number in NUMBERS]


def walk_web(tongue, stock, wholly):
    """All couples of cells that need unlike parts, from all frames."""
    closure = walk_closure(tongue.rules)
    table = table_of(tongue, stock)
    found = []
    for a, b in combinations(cells_of(tongue, stock), 2):
        together = any(a[0] in frame.nouns and b[0] in frame.nouns for frame in tongue.frames)
        two = any(a[0] in frame.nouns and a[0] != frame.agreed for frame in tongue.frames)
        if table[a] != table[b]:
            continue
        if a[0] == b[0]:
            found += [(a, b)] if wholly and two else []
        elif together and (a[0], b[0]) not in closure and (b[0], a[0]) not in closure:
            found.append((a, b))
    return tuple(found)


def walk_least(cells, web):
    """The least count of colours, from all colours of at most so many cells."""
    least = 1
    while True:
        for colours in product(range(least), repeat=len(cells)):
            told = dict(zip(cells, colours))
            if all(told[a] != told[b] for a, b in web):
                return least
        least += 1


def some_article(tongue, stock, source):
    cells = source.sample(cells_of(tongue, stock), source.randint(0, len(cells_of(tongue, stock))))
    return [(*cell, source.choice(["", "x", "yy"])) for cell in cells]


class CheckTest(unittest.TestCase):
    def test_right(self):
        tongue = nesting()
        rows = [[3, "one", "abc"], (0, "many", ""), (0, "one", "z"), [1, "many", "q"]]
        found = check_article(tongue, 0, rows)
        self.assertEqual(found, ((0, "one", "z"), (0, "many", ""), (1, "many", "q"), (3, "one", "abc")))
        self.assertTrue(are_tuples(found))
        self.assertEqual([check_article(tongue, 0, rows) for rows in ((), [])], [(), ()])
        full = [(role, number, "x") for role in range(6) for number in NUMBERS]
        self.assertEqual(check_article(great(), 0, full[::-1]), tuple(full))

    def test_in_the_order_of_the_cells(self):
        source = Random(58)
        for tongue, stock in stocks_of(tongues()):
            rows = some_article(tongue, stock, source)
            cells = cells_of(tongue, stock)
            self.assertEqual(check_article(tongue, stock, rows),
                             tuple(sorted(rows, key=lambda row: cells.index(row[:2]))))

    def test_stock(self):
        for stock in (2, -1, 10 ** 40, *STRANGE):
            for call, more in ((check_article, (None,)), (with_article, (None,)), (article_web, ()),
                               (least_articles, ()), (article_lot, (True,)), (articles_fault, (False, None))):
                refuses(self, NoStock, {"stock": stock}, call, nesting(), stock, *more)

    def wrong(self, index, what, rows, stock=1):
        for call in (check_article, with_article):
            refuses(self, BadArticle, {"index": index, "what": what}, call, nesting(), stock, rows)

    def test_many(self):
        for rows in (*STRANGE, "abc", {0: 1}, iter(()), [(1, "one", "x")] * 13, [None] * 13):
            self.wrong(0, "many", rows)
        self.wrong(1, "double", [(1, "one", "x")] * 12)

    def test_each_word(self):
        good = (1, "one", "x")
        for row in (*STRANGE, (), (3, "one"), (3, "one", "x", "x"), "abcd"):
            self.wrong(1, "row", [good, row])
        for role in (0, 2, 4, -1, 10 ** 40, [3], *STRANGE):
            self.wrong(1, "role", [good, (role, "one", "x")])
        for number in (0, "two", ["one"], *STRANGE):
            self.wrong(1, "number", [good, (3, number, "x")])
        for part in (None, 0, "abcd", "A", "a b", "-", ["a"], ("a",), b"a", True):
            self.wrong(1, "part", [good, (3, "one", part)])
        for part in ("", "a", "abc"):
            self.wrong(1, "double", [good, (1, "one", part)])
            self.wrong(2, "double", [(1, "many", "x"), good, [1, "many", part]])

    def test_two_faults(self):
        self.wrong(0, "part", [(1, "one", None), None])
        self.wrong(0, "role", [(9, "two", None)])
        self.wrong(0, "number", [(1, "two", None)])
        self.wrong(1, "part", [(1, "one", "x"), (1, "one", None)])
        self.wrong(1, "double", [(1, "one", "x"), (1, "one", "x"), None])

    def test_nothing_changes(self):
        rows = [[3, "one", "x"], [1, "one", "y"]]
        kept = copy.deepcopy(rows)
        tongue = nesting()
        found = check_article(tongue, 0, rows)
        with_article(tongue, 0, rows)
        self.assertEqual((rows, tongue), (kept, nesting()))
        rows[0][2] = "z"
        self.assertEqual(found[1], (3, "one", "x"))


class WithArticleTest(unittest.TestCase):
    def test_tables(self):
        found = with_article(two_roles(), 0, [(1, "one", "x"), (0, "many", "yy")])
        self.assertEqual(found.stocks[0].table, ((0, ("", "a"), ("yy", "s")), (1, ("x", "a"), ("", "t"))))
        self.assertEqual(with_article(two_roles(), 0, ()).stocks[0].table[0], (0, ("", "a"), ("", "s")))

    def test_against_all_cells(self):
        source = Random(580)
        for tongue, stock in stocks_of(tongues() + [great()]):
            rows = some_article(tongue, stock, source)
            found = with_article(tongue, stock, rows)
            self.assertIs(type(found), Tongue)
            parts = {row[:2]: row[2] for row in rows}
            before, behind = table_of(tongue, stock), table_of(found, stock)
            self.assertEqual(behind, {cell: (parts.get(cell, ""), *before[cell]) for cell in before})
            for a, b in combinations(before, 2):
                alike = before[a] == before[b] and parts.get(a, "") == parts.get(b, "")
                self.assertEqual(behind[a] == behind[b], alike)
            other = found.with_stock(stock, tongue.stocks[stock].table)
            self.assertEqual(other, tongue)
            if first_exchange(tongue) is None:
                self.assertIsNone(first_exchange(found))

    def test_four_parts(self):
        tongue = two_roles().with_ending(0, 1, "many", ("a", "", "", "b"))
        refuses(self, BadStock, {"what": "ending"}, with_article, tongue, 0, [])
        refuses(self, BadArticle, {"index": 0, "what": "row"}, with_article, tongue, 0, [None])
        three = two_roles().with_ending(0, 1, "many", ("a", "", "b"))
        self.assertEqual(with_article(three, 0, []).stocks[0].table[1][2], ("", "a", "", "b"))
        four = four_stocks().with_ending(1, 1, "one", ("a", "b", "c", "d"))
        refuses(self, BadStock, {"what": "ending"}, with_article, four, 1, [(2, "one", "x")])
        self.assertEqual(with_article(four, 0, []).stocks[1], four.stocks[1])


class WebTest(unittest.TestCase):
    def test_against_all_couples(self):
        for tongue, stock in stocks_of(tongues() + [great()]):
            for wholly in (False, True):
                found = article_web(tongue, stock, wholly)
                self.assertEqual(found, walk_web(tongue, stock, wholly))
                self.assertTrue(are_tuples(found))
            self.assertEqual(article_web(tongue, stock), article_web(tongue, stock, False))

    def test_plain(self):
        self.assertEqual(article_web(two_roles(), 0), (((0, "one"), (1, "one")),))
        self.assertEqual(article_web(two_roles([(1, 0)]), 0), ())
        self.assertEqual(article_web(all_alike(1), 0, True), (((0, "one"), (0, "many")),))
        self.assertEqual(article_web(all_alike(1, (), 0), 0, True), ())
        self.assertEqual(len(article_web(all_alike(3), 0)), 12)
        self.assertEqual(len(article_web(all_alike(3, (), 1), 0, True)), 14)


class LeastTest(unittest.TestCase):
    def check(self, tongue, stock, wholly):
        found = least_articles(tongue, stock, wholly)
        self.assertIs(type(found), Articles)
        self.assertTrue(are_tuples(found.rows))
        self.assertEqual([row[:2] for row in found.rows], cells_of(tongue, stock))
        colours = {row[:2]: row[2] for row in found.rows}
        self.assertEqual(set(colours.values()), set(range(found.least)))
        web = walk_web(tongue, stock, wholly)
        self.assertTrue(all(colours[a] != colours[b] for a, b in web))
        self.assertIsNone(articles_fault(tongue, stock, wholly, found))
        return found, web

    def test_against_all_colours(self):
        for tongue, stock in stocks_of(tongues()):
            for wholly in (False, True):
                found, web = self.check(tongue, stock, wholly)
                self.assertEqual(found.least, walk_least(cells_of(tongue, stock), web))

    def test_what_the_article_leaves(self):
        for tongue, stock in stocks_of(tongues()):
            for wholly in (False, True):
                rows = [(role, number, "abcdef"[colour])
                        for role, number, colour in least_articles(tongue, stock, wholly).rows]
                found = with_article(tongue, stock, rows)
                self.assertEqual([e for e in exchanges_of(found) if e.stock == stock], [])
                if wholly:
                    self.assertEqual([s for s in same_numbers(found) if s.stock == stock], [])

    def test_one_frame_and_several(self):
        for tongue, stock in stocks_of(tongues() + [great()]):
            for wholly in (False, True):
                found, web = self.check(tongue, stock, wholly)
                lot = article_lot(tongue, stock, wholly)
                self.assertGreaterEqual(found.least, len(lot))
                if len(tongue.frames) == 1:
                    self.assertEqual(found.least, len(lot))

    def test_several_frames_can_need_more(self):
        frames = [Frame("f", [0, 1]), Frame("g", [1, 2]), Frame("h", [2, 3]), Frame("i", [0, 3, 4])]
        stock = Stock("n", [(role, ("a",), ("b",)) for role in range(5)])
        tongue = Tongue(["a", "b", "c", "d", "e"], [stock], frames, [(0, 3)])
        self.assertEqual((self.check(tongue, 0, False)[0].least, len(article_lot(tongue, 0))), (3, 2))

    def test_twelve_cells(self):
        frames = [Frame("f", [0, 1, 2, 3, 4]), Frame("g", [1, 2, 3, 4, 5]), Frame("h", [0, 5])]
        stock = Stock("n", [(role, ("a",), ("a",)) for role in range(6)])
        tongue = Tongue(list("abcdef"), [stock], frames)
        self.assertEqual([self.check(tongue, 0, wholly)[0].least for wholly in (False, True)], [6, 12])
        self.assertEqual([len(article_lot(tongue, 0, wholly)) for wholly in (False, True)], [6, 12])


class LotTest(unittest.TestCase):
    def test_greatest(self):
        for tongue, stock in stocks_of(tongues() + [great()]):
            for wholly in (False, True):
                web = walk_web(tongue, stock, wholly)
                cells = cells_of(tongue, stock)
                found = article_lot(tongue, stock, wholly)
                self.assertTrue(are_tuples(found))
                self.assertEqual(list(found), [cell for cell in cells if cell in found])
                self.assertTrue(all(couple in web for couple in combinations(found, 2)))
                greater = combinations(cells, len(found) + 1)
                self.assertFalse(any(all(c in web for c in combinations(lot, 2)) for lot in greater))
                self.assertGreater(len(found), 0)
                self.assertEqual(len({table_of(tongue, stock)[cell] for cell in found}), 1)
            self.assertEqual(article_lot(tongue, stock), article_lot(tongue, stock, False))


class FaultTest(unittest.TestCase):
    """two_roles: (0, one) and (1, one) are alike, the others unlike."""

    def setUp(self):
        self.rows = ((0, "one", 0), (0, "many", 0), (1, "one", 1), (1, "many", 0))

    def fault(self, what, least, rows, tongue=None, wholly=False):
        told = tongue or two_roles()
        self.assertEqual(articles_fault(told, 0, wholly, Articles(least, rows)), what, (least, rows))

    def put(self, at, field, thing):
        rows = [list(row) for row in self.rows]
        rows[at][field] = thing
        return tuple(tuple(row) for row in rows)

    def test_right(self):
        self.fault(None, 2, self.rows)
        self.fault(None, 2, self.put(3, 2, 1))
        self.fault(None, 1, tuple((*cell, 0) for cell in product((0, 1), NUMBERS)), two_roles([(0, 1)]))

    def test_cells(self):
        for rows in (*STRANGE, (), list(self.rows), self.rows[:3], (*self.rows, self.rows[3]), self.rows[::-1],
                     dict(enumerate(self.rows)), "abcd"):
            self.fault("cells", 2, rows)
        for at in range(4):
            for row in (*STRANGE, (), list(self.rows[at]), self.rows[at][:2], (*self.rows[at], 0)):
                self.fault("cells", 2, (*self.rows[:at], row, *self.rows[at + 1:]))
            for role in (*STRANGE, [0], bool(at // 2), 2, -1, float(at // 2)):
                self.fault("cells", 2, self.put(at, 0, role))
            for number in (*STRANGE, "two", ["one"], ("many", "one")[at % 2]):
                self.fault("cells", 2, self.put(at, 1, number))

    def test_colour(self):
        for least in (*STRANGE, 0, -1, 1, 3, 10 ** 12, 10 ** 40, [2], 2.0):
            self.fault("colour", least, self.rows)
        for colour in (*STRANGE, -1, 2, 10 ** 40, [1], 1.0, "1"):
            self.fault("colour", 2, self.put(2, 2, colour))
            self.fault("colour", 2, self.put(1, 2, colour))
        self.fault("colour", True, tuple((*row[:2], 0) for row in self.rows), two_roles([(0, 1)]))
        self.fault("colour", 2, tuple((*row[:2], 0) for row in self.rows))
        self.fault("colour", 2, tuple((*row[:2], row[2] + 1) for row in self.rows))
        self.fault("colour", 3, self.put(3, 2, 3))

    def test_alike(self):
        self.fault("alike", 1, tuple((*row[:2], 0) for row in self.rows))
        self.fault("alike", 2, ((0, "one", 1), (0, "many", 0), (1, "one", 1), (1, "many", 0)))
        whole = ((0, "one", 0), (0, "many", 0), (1, "one", 1), (1, "many", 1))
        self.fault(None, 2, whole, all_alike(2))
        self.fault("alike", 2, whole, all_alike(2), True)
        self.fault("alike", 2, whole, all_alike(2, [(0, 1)]).with_stock(0, words("ab aa", 2)), True)
        self.fault(None, 2, self.rows, all_alike(2, [(0, 1)]).with_stock(0, words("ab aa", 2)), True)

    def test_fewer(self):
        self.fault("fewer", 3, self.put(3, 2, 2))
        self.fault("fewer", 4, ((0, "one", 3), (0, "many", 2), (1, "one", 1), (1, "many", 0)))
        self.fault("fewer", 2, self.rows, two_roles([(0, 1)]))
        self.fault("fewer", 4, ((0, "one", 3), (0, "many", 2), (1, "one", 1), (1, "many", 0)), all_alike(2))
        self.fault(None, 4, ((0, "one", 3), (0, "many", 2), (1, "one", 1), (1, "many", 0)), all_alike(2), True)

    def test_two_faults(self):
        self.fault("cells", 0, self.put(3, 1, "two"))
        self.fault("cells", 2, ((0, "one", 9), *self.rows[1:3], None))
        self.fault("colour", 2, ((0, "one", 5), (0, "many", 0), (1, "one", 5), (1, "many", 0)))
        self.fault("alike", 3, ((0, "one", 1), (0, "many", 0), (1, "one", 1), (1, "many", 2)))


if __name__ == "__main__":
    unittest.main()
