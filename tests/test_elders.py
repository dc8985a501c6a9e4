"""[9.11], [9.12]: common elders and heirs of two tongues."""

import unittest
from itertools import combinations, product
from random import Random
from string import ascii_lowercase

from looseorder.coincide import first_exchange
from looseorder.elders import Elder, Heir, common_elder, common_heir
from looseorder.frames import Frame
from looseorder.stocks import Stock
from looseorder.tongues import Tongue
from looseorder.wearing import Wear, wear_tongue
from support import great, nesting, one_frame, some_tongues, two_roles, words

NAMES = list(ascii_lowercase) + [a + b for a in ascii_lowercase for b in ascii_lowercase]


def endings_of(tongue):
    return [ending for stock in tongue.stocks for row in stock.table for ending in row[1:]]


def parts_of(tongue):
    return {part for ending in endings_of(tongue) for part in ending}


def couples_of(one, other):
    return [couple for ending, mate in zip(endings_of(one), endings_of(other)) for couple in zip(ending, mate)]


def with_endings(tongue, lead):
    stocks = [Stock(stock.name, [(role, lead(one), lead(many)) for role, one, many in stock.table])
              for stock in tongue.stocks]
    return Tongue(tongue.roles, stocks, tongue.frames, tongue.rules, tongue.verbs)


def pairs():
    """Tongues that match, and the same stocks with other parts."""
    source = Random(191)
    for tongue in some_tongues(60, 192) + [nesting(), two_roles(), great(), one_frame(words("ab ab", 2))]:
        many = source.randint(1, 4)
        yield tongue, with_endings(tongue, lambda ending: tuple(source.choice("abcd"[:many]) for _ in ending))
        yield tongue, tongue


def kept(found, one):
    """All but the endings is the one's."""
    return (found.roles, found.frames, found.rules, found.verbs, [stock.name for stock in found.stocks]) == (
        one.roles, one.frames, one.rules, one.verbs, [stock.name for stock in one.stocks])


def unmatched():
    one = nesting()
    for other in (two_roles(), one.with_stock(1, [(1, ("a",), ("b",))]), one.with_ending(1, 3, "many", ("b", "b")),
                  Tongue(one.roles, [*one.stocks, Stock("more", [(0, ("a",), ("a",))])], one.frames),
                  Tongue(one.roles, one.stocks[:1], one.frames), Tongue(one.roles, one.stocks[::-1], one.frames)):
        yield one, other
        yield other, one


class ElderTest(unittest.TestCase):
    def test_what_it_is(self):
        for one, other in pairs():
            found = common_elder(one, other)
            self.assertIsInstance(found, Elder)
            self.assertTrue(kept(found.tongue, one))
            self.assertEqual((type(found.wear), type(found.mate)), (Wear, Wear))
            self.assertEqual(wear_tongue(found.tongue, found.wear), one)
            self.assertEqual([found.mate.led_ending(ending) for ending in endings_of(found.tongue)], endings_of(other))
            self.assertEqual(len(parts_of(found.tongue)), len(set(couples_of(one, other))))
            for wear in (found.wear, found.mate):
                self.assertTrue({row[0] for row in wear.rows} <= parts_of(found.tongue))
            if first_exchange(one) is None:
                self.assertIsNone(first_exchange(found.tongue))

    def test_alike_exactly_if_alike_in_both(self):
        for one, other in pairs():
            found = common_elder(one, other)
            for stock in range(len(one.stocks)):
                rows = list(zip(*[[ending for row in tongue.stocks[stock].table for ending in row[1:]]
                                  for tongue in (one, other, found.tongue)]))
                for (a, b, c), (x, y, z) in combinations(rows, 2):
                    self.assertEqual(c == z, a == x and b == y)

    def test_names_in_their_order(self):
        for one, other in pairs():
            found = common_elder(one, other).tongue
            names = {}
            for couple in couples_of(one, other):
                names.setdefault(couple, NAMES[len(names)])
            told = iter(names[couple] for couple in couples_of(one, other))
            self.assertEqual(found, with_endings(one, lambda ending: tuple(next(told) for _ in ending)))

    def test_which(self):
        one = Tongue(["p", "q"], [Stock("n", [(0, ("b", "b"), ("a",)), (1, ("c",), ("b", "a"))])], [Frame("f", (0,))])
        other = Tongue(["x", "y"], [Stock("m", [(0, ("x", "y"), ("z",)), (1, ("z",), ("x", "z"))])], [Frame("g", (1,))])
        found = common_elder(one, other)
        self.assertEqual(found.tongue.stocks, (Stock("n", [(0, ("a", "b"), ("c",)), (1, ("d",), ("a", "c"))]),))
        self.assertEqual(found.wear.rows, (("a", "b"), ("c", "a"), ("d", "c")))
        self.assertEqual(found.mate.rows, (("a", "x"), ("b", "y"), ("c", "z"), ("d", "z")))

    def test_fewest_parts_of_all_elders(self):
        """No tongue with fewer parts is led to both by wears."""
        source = Random(193)
        for _ in range(40):
            one, other = [one_frame([(0, tuple(source.choice("ab") for _ in "xy"), ("a",))]) for _ in "pq"]
            fewest = len(parts_of(common_elder(one, other).tongue))
            for many in range(1, fewest):
                for parts in product("abc"[:many], repeat=3):
                    leads = [{}, {}]
                    for lead, tongue in zip(leads, (one, other)):
                        for part, told in zip(parts, [part for ending in endings_of(tongue) for part in ending]):
                            lead.setdefault(part, set()).add(told)
                    self.assertTrue(any(len(lot) > 1 for lead in leads for lot in lead.values()))

    def test_many_parts(self):
        """More than 26 couples: the parts go on with two letters."""
        parts = [a + b for a in "abcde" for b in "vwxyz"] + list("abcdefghijklmnopqrstuv")
        table = [(role, tuple(parts[8 * role:8 * role + 4]), tuple(parts[8 * role + 4:8 * role + 8]))
                 for role in range(5)]
        one = one_frame(table)
        other = with_endings(one, lambda ending: ("a",) * 4)
        found = common_elder(one, other)
        self.assertEqual([part for ending in endings_of(found.tongue) for part in ending], NAMES[:40])
        self.assertEqual(NAMES[26:28] + [NAMES[39]], ["aa", "ab", "an"])
        self.assertEqual(wear_tongue(found.tongue, found.wear), one)
        stocks = [Stock(name, [(role, *[tuple(a + b for b in "abcd") for a in pair]) for role, pair in
                               enumerate([letters[at:at + 2] for at in range(0, 12, 2)])])
                  for name, letters in zip("nmop", ["abcdefghijkl", "mnopqrstuvwx", "abcdefghijkl", "abcdefghijkl"])]
        wide = Tongue(list("abcdef"), stocks, [Frame("f", (0,))])
        found = common_elder(wide, wide)
        self.assertEqual(len(parts_of(found.tongue)), 96)
        self.assertEqual(parts_of(found.tongue), set(NAMES[:96]))

    def test_no_match(self):
        for one, other in unmatched():
            self.assertIsNone(common_elder(one, other))


class HeirTest(unittest.TestCase):
    def pieces(self, one, other):
        """For each couple of parts, the number of its piece of the web, in the order in which they come first."""
        couples = couples_of(one, other)
        lots = [{(0, a), (1, b)} for a, b in couples]
        joined = True
        while joined:
            joined = False
            for at in range(len(lots)):
                for lot in lots[at + 1:]:
                    if lots[at] & lot and lots[at] != lot:
                        lots[at] |= lot
                        lot |= lots[at]
                        joined = True
        names = {}
        return [names.setdefault(frozenset(lot), len(names)) for lot in lots]

    def test_what_it_is(self):
        for one, other in pairs():
            found = common_heir(one, other)
            self.assertIsInstance(found, Heir)
            self.assertTrue(kept(found.tongue, one))
            self.assertEqual((type(found.wear), type(found.mate)), (Wear, Wear))
            self.assertEqual(wear_tongue(one, found.wear), found.tongue)
            self.assertEqual([found.mate.led_ending(ending) for ending in endings_of(other)], endings_of(found.tongue))
            numbers = self.pieces(one, other)
            self.assertEqual([part for ending in endings_of(found.tongue) for part in ending],
                             [NAMES[number] for number in numbers])
            for wear, tongue in ((found.wear, one), (found.mate, other)):
                self.assertTrue({row[0] for row in wear.rows} <= parts_of(tongue))
            if first_exchange(found.tongue) is None:
                self.assertIsNone(first_exchange(one))

    def test_which(self):
        one = Tongue(["p", "q"], [Stock("n", [(0, ("b", "c"), ("a",)), (1, ("c",), ("d", "a"))])], [Frame("f", (0,))])
        other = Tongue(["x", "y"], [Stock("m", [(0, ("x", "y"), ("b",)), (1, ("z",), ("z", "b"))])], [Frame("g", (1,))])
        found = common_heir(one, other)
        # b with x; c with y and z, z with d; a with b. The b of the one is not that of the other.
        self.assertEqual(found.tongue.stocks, (Stock("n", [(0, ("a", "b"), ("c",)), (1, ("b",), ("b", "c"))]),))
        self.assertEqual(found.wear.rows, (("a", "c"), ("b", "a"), ("c", "b"), ("d", "b")))
        self.assertEqual(found.mate.rows, (("b", "c"), ("x", "a"), ("y", "b"), ("z", "b")))

    def test_most_parts_of_all_heirs(self):
        """No maps of both tongues' parts that meet in one tongue leave more parts."""
        source = Random(194)
        sizes = set()
        for _ in range(60):
            one, other = [one_frame([(0, tuple(source.choice(letters) for _ in "xyz"), (source.choice(letters),))])
                          for letters in ("abc", "abd")]
            most = 0
            own, mates = sorted(parts_of(one)), sorted(parts_of(other))
            for led in product("abcd", repeat=len(own)):
                for mate in product("abcd", repeat=len(mates)):
                    lead, match = dict(zip(own, led)), dict(zip(mates, mate))
                    if all(lead[a] == match[b] for a, b in couples_of(one, other)):
                        most = max(most, len(set(led)))
            self.assertEqual(len(parts_of(common_heir(one, other).tongue)), most)
            sizes.add(most)
        self.assertTrue(sizes >= {1, 2, 3})

    def test_no_match(self):
        for one, other in unmatched():
            self.assertIsNone(common_heir(one, other))

    def test_with_itself(self):
        for tongue in some_tongues(20, 195):
            elder, heir = common_elder(tongue, tongue), common_heir(tongue, tongue)
            self.assertEqual(elder.tongue, heir.tongue)
            self.assertEqual(elder.wear, elder.mate)
            self.assertEqual(heir.wear, heir.mate)

    def test_nothing_changes(self):
        one, other = nesting(), with_endings(nesting(), lambda ending: ("q",) * len(ending))
        common_elder(one, other)
        common_heir(one, other)
        self.assertEqual(one, nesting())
        self.assertEqual(other, with_endings(nesting(), lambda ending: ("q",) * len(ending)))


if __name__ == "__main__":
    unittest.main()
