"""[9.1] to [9.4]: wears, the least wear that makes a tongue unclear, and the wear between two tongues."""

import unittest
from itertools import combinations, product
from random import Random

from looseorder.coincide import Exchange, exchange_fault, first_exchange
from looseorder.errors import BadWear
from looseorder.frames import Frame
from looseorder.stocks import Stock
from looseorder.tongues import Tongue
from looseorder.wearing import Wear, WornOut, least_wear, wear_between, wear_tongue
from support import (NUMBERS, STRANGE, Sayable, all_alike, are_tuples, four_stocks, great, nesting, one_frame, refuses,
                     some_tongues, table_of, two_roles, walk_closure, walk_is_clear, words)


def endings_of(tongue):
    return [ending for stock in tongue.stocks for row in stock.table for ending in row[1:]]


def parts_of(tongue):
    return sorted({part for ending in endings_of(tongue) for part in ending})


def is_clear(tongue):
    return all(walk_is_clear(tongue, frame) for frame in range(len(tongue.frames)))


def with_endings(tongue, lead):
    stocks = [Stock(stock.name, [(role, lead(one), lead(many)) for role, one, many in stock.table])
              for stock in tongue.stocks]
    return Tongue(tongue.roles, stocks, tongue.frames, tongue.rules, tongue.verbs)


class WearTest(unittest.TestCase):
    def test_rows(self):
        wear = Wear([("b", "a"), ("", "b"), ["a", "a"], ("aaa", "")])
        self.assertEqual(wear.rows, (("", "b"), ("aaa", ""), ("b", "a")))
        self.assertTrue(are_tuples(wear.rows))
        self.assertEqual(Wear([]).rows, ())
        self.assertEqual(Wear(()), Wear([("a", "a")]))
        self.assertEqual(Wear([("a", "b"), ("c", "d")]), Wear((["c", "d"], ["a", "b"])))
        for other in (Wear([("a", "b")]), Wear([("b", "c"), ("", "b"), ("aaa", "")]), None, wear.rows, Sayable()):
            self.assertNotEqual(wear, other)
            self.assertFalse(wear == other)
        self.assertFalse(wear != Wear(list(wear.rows)))

    def test_leading(self):
        wear = Wear([("b", "a"), ("", "b"), ("c", "c"), ("aaa", "")])
        for part, led in (("b", "a"), ("", "b"), ("c", "c"), ("aaa", ""), ("a", "a"), ("zz", "zz")):
            self.assertEqual(wear.led_part(part), led)
        # A part is led once, not as long as a row begins with it.
        self.assertEqual(wear.led_ending(["aaa", "", "b", "q"]), ("", "b", "a", "q"))
        self.assertEqual(wear.led_ending(("a",)), ("a",))
        self.assertIsInstance(wear.led_ending(["a"]), tuple)
        # They check nothing.
        self.assertEqual(wear.led_part("longer"), "longer")
        self.assertEqual(wear.led_ending(()), ())

    def test_then(self):
        source = Random(151)
        parts = ["", "a", "b", "c", "dd"]
        for _ in range(300):
            one, other = [Wear([(part, source.choice(parts)) for part in parts if source.random() < 0.6]) for _ in "ab"]
            before = one.rows, other.rows
            both = one.then(other)
            self.assertEqual((one.rows, other.rows), before)
            self.assertIsInstance(both, Wear)
            for part in [*parts, "x"]:
                self.assertEqual(both.led_part(part), other.led_part(one.led_part(part)))
            self.assertEqual(both.rows, tuple(sorted((part, both.led_part(part)) for part in parts
                                                     if both.led_part(part) != part)))
        self.assertEqual(Wear([("a", "b")]).then(Wear([("b", "a")])).rows, (("b", "a"),))
        self.assertEqual(Wear([("a", "b"), ("b", "a")]).then(Wear([("b", "a"), ("a", "b")])), Wear([]))

    def test_errors_in_their_order(self):
        for rows in ("ab", {"a": "b"}, *STRANGE):
            refuses(self, BadWear, {"index": 0, "what": "rows"}, Wear, rows)
        right = [("a", "b"), ("b", "b")]
        for row in ((), ("c",), ("c", "d", "e"), "cd", *STRANGE):
            refuses(self, BadWear, {"index": 0, "what": "row"}, Wear, [row])
            refuses(self, BadWear, {"index": 2, "what": "row"}, Wear, [*right, row, None])
        for part in ("aaaa", "A", "a b", "1", ["a"], None, 0, True, b"a", object()):
            refuses(self, BadWear, {"index": 2, "what": "part"}, Wear, [*right, (part, "a"), None])
            refuses(self, BadWear, {"index": 2, "what": "part"}, Wear, [*right, ("a", part), None])
        for part in ("a", "b"):
            refuses(self, BadWear, {"index": 2, "what": "double"}, Wear, [*right, (part, "c"), None])
        refuses(self, BadWear, {"index": 1, "what": "double"}, Wear, [("a", "a"), ("a", "a")])

    def test_nothing_changes(self):
        rows = [["a", "b"], ["b", "b"]]
        wear = Wear(rows)
        rows[0][1] = "z"
        rows.append(["c", "d"])
        self.assertEqual(wear.rows, (("a", "b"),))


class WearTongueTest(unittest.TestCase):
    def test_every_ending_is_led(self):
        source = Random(152)
        for tongue in [*some_tongues(30, 153), great(), four_stocks(), nesting()]:
            parts = parts_of(tongue)
            wear, more = [Wear([(part, source.choice(parts)) for part in parts if source.random() < 0.5]) for _ in "ab"]
            found = wear_tongue(tongue, wear)
            self.assertEqual(found, with_endings(tongue, wear.led_ending))
            self.assertEqual(wear_tongue(found, more), wear_tongue(tongue, wear.then(more)))
            if first_exchange(tongue) is not None:
                self.assertIsNotNone(first_exchange(found))
            for one, other in combinations(endings_of(tongue), 2):
                if one == other:
                    self.assertEqual(wear.led_ending(one), wear.led_ending(other))
            self.assertEqual(wear_tongue(tongue, Wear([])), tongue)

    def test_nothing_changes(self):
        tongue = nesting()
        wear_tongue(tongue, Wear([("a", "b")]))
        least_wear(tongue)
        self.assertEqual(tongue, nesting())


def worn_by_rows(tongue, many):
    """Whether some wear of so many rows makes the tongue unclear, from all of them."""
    parts = parts_of(tongue)
    for lot in combinations(parts, many):
        for led in product([*parts, "zzz"], repeat=many):
            if all(part != to for part, to in zip(lot, led)):
                if not is_clear(wear_tongue(tongue, Wear(list(zip(lot, led))))):
                    return True
    return False


def can_wear_out(tongue):
    """Whether some two noun roles side by side have, in one stock, endings with as many parts."""
    closure = walk_closure(tongue.rules)
    return any((a, b) not in closure and (b, a) not in closure and len(table[a, n]) == len(table[b, m])
               for frame in tongue.frames for a, b in combinations(frame.nouns, 2)
               for table in [table_of(tongue, stock) for stock in range(len(tongue.stocks))]
               for n in NUMBERS for m in NUMBERS if (a, n) in table and (b, m) in table)


class LeastWearTest(unittest.TestCase):
    def tongues(self):
        found = some_tongues(30, 154, 3) + [two_roles(), two_roles([(0, 1)]), all_alike(1), all_alike(2)]
        table = [(0, ("a", "b", "a"), ("b", "b", "c")), (1, ("b", "c", "b"), ("c", "a", "b"))]
        found += [one_frame(table), one_frame(table, [(0, 1)]),
                  one_frame([(0, ("a",), ("b",)), (1, ("a", "b"), ("", "c"))])]
        table = [(0, ("a", "b"), ("c", "d")), (1, ("c", "a"), ("b", "a")), (2, ("", ""), ("d", "c"))]
        return found + [one_frame(table), one_frame(table, [(0, 1), (0, 2)]), one_frame(words("ab cd ef", 3), [(0, 2)])]

    def test_fewest_rows_of_all_wears(self):
        sizes = set()
        for tongue in self.tongues():
            found = least_wear(tongue)
            self.assertEqual(found is not None, can_wear_out(tongue))
            if found is None:
                parts = parts_of(tongue)
                self.assertTrue(is_clear(wear_tongue(tongue, Wear([(part, parts[0]) for part in parts]))))
                sizes.add(None)
                continue
            self.assertEqual((type(found), type(found.wear), type(found.exchange)), (WornOut, Wear, Exchange))
            worn = wear_tongue(tongue, found.wear)
            self.assertFalse(is_clear(worn))
            self.assertIsNone(exchange_fault(worn, found.exchange))
            rows = len(found.wear.rows)
            sizes.add(rows)
            self.assertFalse(any(worn_by_rows(tongue, many) for many in range(rows)))
            self.assertEqual(rows == 0, not is_clear(tongue))
        self.assertTrue(sizes >= {None, 0, 1, 2})

    def test_pieces_of_the_web(self):
        # a-b, b-c in one piece, and d-e in another: two rows and one.
        table = [(0, ("a", "b", "d"), ("q",)), (1, ("b", "c", "e"), ("r", "s"))]
        found = least_wear(one_frame(table))
        self.assertEqual(len(found.wear.rows), 3)
        # The same couple at two places takes one row.
        table = [(0, ("a", "a", "x"), ("q",)), (1, ("b", "b", "x"), ("r", "s"))]
        self.assertEqual(len(least_wear(one_frame(table)).wear.rows), 1)
        # a-b, b-a, in one piece.
        table = [(0, ("a", "b"), ("q",)), (1, ("b", "a"), ("r", "s", "t"))]
        self.assertEqual(len(least_wear(one_frame(table)).wear.rows), 1)

    def test_just_noun_roles_of_one_frame(self):
        noun = Stock("n", [(0, ("a",), ("b",)), (1, ("c",), ("d",)), (2, ("e",), ("f",))])
        roles = ["p", "q", "r"]
        self.assertIsNone(least_wear(Tongue(roles, [noun], [Frame("f", (0,)), Frame("g", (1,)), Frame("h", (2,), 1)])))
        found = least_wear(Tongue(roles, [noun], [Frame("f", (0,)), Frame("g", (1, 2))]))
        self.assertEqual((found.exchange.frame, found.exchange.role, found.exchange.other), (1, 1, 2))
        apart = [Stock("n", [(0, ("a",), ("b",))]), Stock("m", [(1, ("a",), ("b",))])]
        self.assertIsNone(least_wear(Tongue(roles, apart, [Frame("f", (0, 1))])))

    def test_great(self):
        found = least_wear(great())
        self.assertEqual(found.wear.rows, ())
        self.assertIsNone(exchange_fault(great(), found.exchange))


class BetweenTest(unittest.TestCase):
    def walk(self, one, other):
        """The wear over the parts of one's endings, from all maps, or None."""
        parts = parts_of(one)
        for led in product(parts_of(other), repeat=len(parts)):
            lead = dict(zip(parts, led))
            worn = [tuple(lead[part] for part in ending) for ending in endings_of(one)]
            if worn == endings_of(other):
                return tuple(sorted((part, to) for part, to in lead.items() if part != to))
        return None

    def match(self, one, other):
        cells = [[(stock, row[0], number, len(ending)) for stock, told in enumerate(tongue.stocks) for row in told.table
                  for number, ending in zip(NUMBERS, row[1:])] for tongue in (one, other)]
        return cells[0] == cells[1]

    def couples(self):
        source = Random(155)
        for tongue in some_tongues(40, 156, 2) + [one_frame(words("ab cd", 2)), one_frame(words("aa bb", 2))]:
            parts = parts_of(tongue)
            yield tongue, wear_tongue(tongue, Wear([(part, source.choice([*parts, "z"])) for part in parts]))
            yield tongue, with_endings(tongue, lambda ending: tuple(source.choice(parts) for _ in ending))
            yield tongue, with_endings(tongue, lambda ending: (*ending, "x") if source.random() < 0.1 else ending)
        tongues = some_tongues(30, 157, 2)
        yield from zip(tongues, tongues[1:])

    def test_exactly_if_there_is_one(self):
        kinds = set()
        for one, other in self.couples():
            found = wear_between(one, other)
            walked = self.walk(one, other) if self.match(one, other) else None
            kinds.add((self.match(one, other), walked is None))
            if walked is None:
                self.assertIsNone(found)
            else:
                self.assertEqual((type(found), found.rows), (Wear, walked))
                self.assertEqual([found.led_ending(ending) for ending in endings_of(one)], endings_of(other))
        self.assertEqual(kinds, {(True, True), (True, False), (False, True)})

    def test_names_frames_rules_and_verbs_do_not_count(self):
        one = Tongue(["p", "q"], [Stock("n", [(0, ("a",), ("b",)), (1, ("c",), ("c",))])], [Frame("see", (0, 1))],
                     [(0, 1)])
        other = Tongue(["x", "y", "z"], [Stock("m", [(0, ("d",), ("d",)), (1, ("c",), ("c",))])], [Frame("go", (0,))],
                       (), "free")
        self.assertEqual(wear_between(one, other).rows, (("a", "d"), ("b", "d")))
        self.assertIsNone(wear_between(other, one))
        self.assertIsNone(wear_between(one, Tongue(other.roles, [*other.stocks, Stock("o", [(0, ("a",), ("a",))])],
                                                   other.frames)))
        more = Stock("m", [(0, ("d",), ("d",)), (2, ("c",), ("c",))])
        self.assertIsNone(wear_between(one, Tongue(other.roles, [more], other.frames)))
        self.assertEqual(wear_between(one, one), Wear([]))

    def test_as_many_parts_in_each_cell(self):
        one = one_frame([(0, ("a",), ("b", "c")), (1, ("a", "b"), ("a",))])
        other = one_frame([(0, ("a", "c"), ("b",)), (1, ("a",), ("a", "b"))])
        self.assertIsNone(wear_between(one, other))

    def test_nothing_changes(self):
        one, other = two_roles(), two_roles([(0, 1)])
        wear_between(one, other)
        self.assertEqual((one, other), (two_roles(), two_roles([(0, 1)])))


if __name__ == "__main__":
    unittest.main()
