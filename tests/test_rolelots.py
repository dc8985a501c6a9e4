"""[6.4] to [6.6]: lots of roles whose endings are swallowed."""

import copy
import unittest
from itertools import combinations

from looseorder.coincide import Exchange, first_exchange
from looseorder.errors import BadLot, BadPattern, BadThings, NoFrame
from looseorder.rolelots import first_in_lot, greatest_lots, lot_readings, swallow_lot
from looseorder.swallowing import Swallowed, swallowed_fault
from support import (NUMBERS, STRANGE, all_alike, are_tuples, four_stocks, great, heard_things, nesting, one_frame,
                     refuses, roles_in, some_tongues, table_of, two_roles, walk_closure, walk_patterns, walk_readings,
                     walk_shown, words)


def tongues():
    return some_tongues(40, 64, 3) + [
        two_roles(), two_roles([(0, 1)]), nesting(agreed=1), nesting(rules=[(0, 1), (1, 3)]), four_stocks(),
        four_stocks([(0, 1), (1, 2)]), all_alike(1), all_alike(2), all_alike(3), all_alike(3, [(0, 1), (1, 2)]),
        one_frame(words("ab cd", 2)), one_frame(words("ab cd ef", 3), [(0, 1)], 2), one_frame(words("ab ab ef", 3))]


def lots_of(tongue):
    many = len(tongue.roles)
    return [lot for size in range(many + 1) for lot in combinations(range(many), size)]


def readings(*told):
    return list(lot_readings(*told))


def hide(things, pattern, lot):
    return tuple((thing[0], None) if thing is not None and entry[0] in lot else thing
                 for thing, entry in zip(things, pattern))


def is_clear_lot(tongue, lot):
    """No two patterns with unlike roles have the same things and number with the lot swallowed."""
    for frame in range(len(tongue.frames)):
        met = {}
        for pattern in walk_patterns(tongue, frame):
            things, number = walk_shown(tongue, frame, pattern)
            if met.setdefault((hide(things, pattern, lot), number), roles_in(pattern)) != roles_in(pattern):
                return False
    return True


def walk_faults(tongue, lot):
    """All rows (frame, role, other, stock, number, mate, hidden) that make a lot unclear, in order."""
    closure = walk_closure(tongue.rules)
    for frame, told in enumerate(tongue.frames):
        for a, b in combinations(told.nouns, 2):
            if (a, b) in closure or (b, a) in closure or (a in lot) != (b in lot):
                continue
            for stock in range(len(tongue.stocks)):
                table = table_of(tongue, stock)
                if (a, "one") in table and (b, "one") in table:
                    for number, mate in [(n, m) for n in NUMBERS for m in NUMBERS]:
                        if a in lot or table[a, number] == table[b, mate]:
                            yield frame, a, b, stock, number, mate, 2 if a in lot else 0


class ReadingsTest(unittest.TestCase):
    def test_against_all_readings(self):
        found = 0
        for tongue, frame, things, number in heard_things(tongues()[::2], 6):
            walked = walk_readings(tongue, frame, things, number)
            for lot in lots_of(tongue):
                told = [reading for reading in walked
                        if all((thing[1] is None) == (entry[0] in lot)
                               for thing, entry in zip(things, reading) if thing is not None)]
                self.assertEqual(list(lot_readings(tongue, frame, list(things), number, lot[::-1])), told)
                found += len(told)
        self.assertGreater(found, 1000)

    def test_the_clause_role_in_a_lot(self):
        tongue = nesting(rules=[(0, 1)])
        things = [(0, None), None, (0, ("b",))]
        for lot in ((0,), (0, 2), [2, 3, 0]):
            self.assertEqual(list(lot_readings(tongue, 0, things, None, lot)),
                             [((0, 0, number), (2, None, None), (1, 0, "many")) for number in NUMBERS])
        self.assertEqual(list(lot_readings(tongue, 0, things, None, (1, 2))), [])

    def test_wrong(self):
        tongue = nesting()
        for frame in (4, -1, *STRANGE):
            refuses(self, NoFrame, {"frame": frame}, readings, tongue, frame, None, None, None)
        for told, index, what in (([], 0, "many"), ([5, None, None], 0, "thing"), ([None, None, None], 1, "clause")):
            refuses(self, BadThings, {"index": index, "what": what}, readings,
                    tongue, 0, told, "x", [9])
        things = [(0, ("a",))]
        refuses(self, BadThings, {"index": 0, "what": "number"}, readings,
                tongue, 2, things, None, [9])
        for lot, index in ((None, 0), ([0, 0], 1), ([1, 4], 1), ([True], 0), ({0: 1}, 0)):
            refuses(self, BadLot, {"index": index}, readings, tongue, 2, things, "one", lot)

    def test_nothing_changes(self):
        things, lot = [[0, None], [0, ["a"]]], [1, 0]
        kept = copy.deepcopy((things, lot))
        list(lot_readings(two_roles(), 0, things, None, lot))
        self.assertEqual((things, lot), kept)


class SwallowTest(unittest.TestCase):
    def test_all_patterns(self):
        for tongue in tongues()[::2] + [nesting(), four_stocks()]:
            for frame in range(len(tongue.frames)):
                for pattern in walk_patterns(tongue, frame)[::5]:
                    things, _ = walk_shown(tongue, frame, pattern)
                    for lot in lots_of(tongue):
                        found = swallow_lot(tongue, frame, [list(entry) for entry in pattern], list(lot[::-1]))
                        self.assertEqual(found, hide(things, pattern, lot))
                        self.assertTrue(are_tuples(found))

    def test_wrong(self):
        pattern = [(0, 0, "one"), (1, 0, "one")]
        for frame in (2, -1, *STRANGE):
            refuses(self, NoFrame, {"frame": frame}, swallow_lot, two_roles(), frame, None, None)
        refuses(self, BadPattern, {"index": 0, "what": "many"}, swallow_lot, two_roles(), 0, [], [9])
        refuses(self, BadPattern, {"index": 1, "what": "rule"}, swallow_lot, two_roles([(1, 0)]), 0, pattern, None)
        for lot, index in ((None, 0), ([0, 0], 1), ([1, 2], 1), ([0, True], 1), ("01", 0)):
            refuses(self, BadLot, {"index": index}, swallow_lot, two_roles(), 0, pattern, lot)


class FirstTest(unittest.TestCase):
    def test_none_exactly_if_the_lot_is_clear(self):
        kinds = set()
        for tongue in tongues():
            for lot in lots_of(tongue):
                found = first_in_lot(tongue, lot)
                self.assertEqual(found is None, is_clear_lot(tongue, lot))
                kinds.add(found and found.hidden)
        self.assertEqual(kinds, {None, 0, 2})

    def test_which(self):
        for tongue in tongues() + [great(), great().with_rules([])]:
            for lot in lots_of(tongue):
                rows = list(walk_faults(tongue, lot))
                found = first_in_lot(tongue, lot[::-1])
                if rows:
                    self.assertEqual(found, Swallowed(Exchange(*rows[0][:6]), rows[0][6]))
                    self.assertEqual((type(found), type(found.exchange)), (Swallowed, Exchange))
                    self.assertIsNone(swallowed_fault(tongue, found))
                else:
                    self.assertIsNone(found)

    def test_no_lot_swallowed_is_a_clear_tongue(self):
        for tongue in tongues() + [great()]:
            exchange = first_exchange(tongue)
            self.assertEqual(first_in_lot(tongue, []), exchange and Swallowed(exchange, 0))

    def test_swallowing_can_help(self):
        tongue = all_alike(2)
        self.assertEqual([first_in_lot(tongue, lot) is None for lot in ((), (0,), (1,), (0, 1))],
                         [False, True, True, False])

    def test_wrong(self):
        for lot, index in ((None, 0), ("0", 0), ([0, 0], 1), ([1, 2], 1), ([0, True], 1), ([10 ** 40], 0), ({}, 0)):
            refuses(self, BadLot, {"index": index}, first_in_lot, two_roles(), lot)


class GreatestTest(unittest.TestCase):
    def test_against_all_lots(self):
        none = 0
        for tongue in tongues():
            nouns = sorted({role for frame in tongue.frames for role in frame.nouns})
            clear = [lot for size in range(len(nouns) + 1) for lot in combinations(nouns, size)
                     if is_clear_lot(tongue, lot)]
            found = greatest_lots(tongue)
            self.assertEqual(found, tuple(lot for lot in clear if len(lot) == len(clear[-1])))
            self.assertTrue(are_tuples(found))
            none += found == ()
        self.assertGreater(none, 0)

    def test_plain(self):
        self.assertEqual(greatest_lots(all_alike(3)), ())
        self.assertEqual(greatest_lots(all_alike(2)), ((0,), (1,)))
        self.assertEqual(greatest_lots(all_alike(1)), ((0,),))
        self.assertEqual(greatest_lots(two_roles([(0, 1)])), ((0, 1),))
        # The clause role 2 of nesting is in no lot.
        self.assertEqual(greatest_lots(nesting(rules=[(0, 1), (1, 3)])), ((0, 1, 3),))

    def test_lots_within_a_clear_lot_of_a_clear_tongue(self):
        for tongue in tongues():
            if first_exchange(tongue) is None:
                for lot in greatest_lots(tongue):
                    for part in [p for size in range(len(lot)) for p in combinations(lot, size)]:
                        self.assertIsNone(first_in_lot(tongue, part))

    def test_one_frame_and_one_stock(self):
        for rules in ([(0, 1)], [(0, 1), (1, 2)], [(0, 2), (1, 2), (2, 3)], [(0, 1), (2, 3)], []):
            tongue = one_frame(words("ab cd ef gh", 4), rules)
            closure = walk_closure(rules)
            chains = [size for size in range(5) for lot in combinations(range(4), size)
                      if all((a, b) in closure for a, b in combinations(lot, 2))]
            self.assertEqual({len(lot) for lot in greatest_lots(tongue)}, {max(chains)})

    def test_great(self):
        for lot in greatest_lots(great().with_rules([(role, role + 1) for role in range(5)])):
            self.assertEqual(lot, (0, 1, 2, 3, 4, 5))
        self.assertEqual(greatest_lots(great()), ())


if __name__ == "__main__":
    unittest.main()
