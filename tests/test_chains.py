"""[0.3], [4.4]: lots of roles, the greatest that is side by side, the fewest chains."""

import unittest
from itertools import combinations, product
from random import Random

from looseorder.chains import Wide, check_lot, wide_fault, widest
from looseorder.errors import BadLot
from support import STRANGE, all_alike, are_tuples, great, refuses, some_tongues, walk_closure


def lots_of(many):
    return [lot for size in range(many + 1) for lot in combinations(range(many), size)]


def some_rules(source):
    row = source.sample(range(6), 6)
    share = source.choice([0.1, 0.3, 0.6])
    return [couple for couple in combinations(row, 2) if source.random() < share]


def is_beside(closure, lot):
    return not any((a, b) in closure or (b, a) in closure for a, b in combinations(lot, 2))


def fewest_chains(closure, lot):
    """The least count of parts of the lot in each of which any two are in order, from all ways to part it."""
    best = len(lot)
    for told in product(range(len(lot)), repeat=len(lot)):
        parts = [[role for role, part in zip(lot, told) if part == at] for at in set(told)]
        if len(parts) < best and all((a, b) in closure or (b, a) in closure
                                     for part in parts for a, b in combinations(part, 2)):
            best = len(parts)
    return best


class LotTest(unittest.TestCase):
    def test_right(self):
        tongue = great()
        for lot in ((), [], [5, 0, 3], (1,), [5, 4, 3, 2, 1, 0]):
            found = check_lot(tongue, lot)
            self.assertEqual((type(found), found), (tuple, tuple(sorted(lot))))

    def test_wrong(self):
        for call in (check_lot, widest, lambda tongue, lot: wide_fault(tongue, lot, Wide(None, None))):
            for lot in (*STRANGE, {0: 1}, iter([0]), "012"):
                if lot != ():
                    refuses(self, BadLot, {"index": 0}, call, all_alike(3), lot)
            for role in (3, -1, 10 ** 40, [0], *STRANGE):
                refuses(self, BadLot, {"index": 0}, call, all_alike(3), [role, role])
                refuses(self, BadLot, {"index": 2}, call, all_alike(3), [2, 0, role, 9])
            refuses(self, BadLot, {"index": 1}, call, all_alike(3), [1, 1, 9])
            refuses(self, BadLot, {"index": 2}, call, all_alike(3), (1, 0, 1))

    def test_nothing_changes(self):
        lot = [2, 0]
        found = check_lot(all_alike(3), lot)
        widest(all_alike(3), lot)
        self.assertEqual(lot, [2, 0])
        lot[0] = 1
        self.assertEqual(found, (0, 2))


class WidestTest(unittest.TestCase):
    def check(self, tongue, lot):
        closure = walk_closure(tongue.rules)
        found = widest(tongue, lot)
        self.assertIs(type(found), Wide)
        self.assertTrue(are_tuples((found.lot, found.chains)))
        many = max(len(part) for size in range(len(lot) + 1) for part in combinations(lot, size)
                   if is_beside(closure, part))
        self.assertEqual((len(found.lot), len(found.chains)), (many, many))
        self.assertEqual(found.lot, tuple(sorted(found.lot)))
        self.assertTrue(is_beside(closure, found.lot) and set(found.lot) <= set(lot))
        self.assertEqual(sorted(role for chain in found.chains for role in chain), sorted(lot))
        for chain in found.chains:
            self.assertTrue(len(chain) > 0 and all((a, b) in closure for a, b in zip(chain, chain[1:])))
        self.assertIsNone(wide_fault(tongue, lot, found))
        return many

    def test_all_lots(self):
        for tongue in some_tongues(25, 44):
            for lot in lots_of(len(tongue.roles)):
                self.assertEqual(self.check(tongue, lot), fewest_chains(walk_closure(tongue.rules), lot))

    def test_six_roles(self):
        source = Random(440)
        for _ in range(30):
            tongue = great().with_rules(some_rules(source))
            for lot in source.sample(lots_of(6), 15):
                self.check(tongue, source.sample(lot, len(lot)))

    def test_a_chain_that_must_be_parted_late(self):
        # The chain 0, 2 is needed for 3 to follow 1: chains that are taken too soon are given up again.
        tongue = great().with_rules([(0, 2), (0, 3), (1, 2)])
        self.assertEqual(self.check(tongue, (0, 1, 2, 3)), 2)
        tongue = great().with_rules([(0, 4), (0, 5), (1, 4), (2, 5), (2, 3)])
        self.check(tongue, (0, 1, 2, 3, 4, 5))

    def test_edges(self):
        found = widest(great(), [])
        self.assertEqual((found.lot, found.chains), ((), ()))
        self.assertEqual(widest(all_alike(1), (0,)), Wide((0,), ((0,),)))
        self.assertEqual(len(widest(all_alike(5), (4, 3, 2, 1, 0)).chains), 5)
        chain = [(role, role + 1) for role in range(4)]
        self.assertEqual(widest(all_alike(5, chain), (3, 0, 2)).chains, ((0, 2, 3),))
        # Order over a role that the lot lacks.
        self.assertEqual(widest(all_alike(5, chain), (4, 0)).chains, ((0, 4),))


class FaultTest(unittest.TestCase):
    """Roles 0 ahead of 1 ahead of 2; 3 ahead of 2; 4 beside all."""

    def setUp(self):
        self.tongue = all_alike(5, [(0, 1), (1, 2), (3, 2)])

    def fault(self, what, wide, chains, lot=(0, 1, 2, 3)):
        self.assertEqual(wide_fault(self.tongue, lot, Wide(wide, chains)), what, (wide, chains))

    def test_right(self):
        for wide in ((0, 3), [3, 0], (1, 3), [3, 1]):
            self.fault(None, wide, ((0, 1, 2), (3,)))
            self.fault(None, wide, [[3, 2], [0, 1]])
        self.fault(None, (), (), ())
        self.fault(None, [], [], [])
        self.fault(None, (4, 3, 0), [(4,), [0, 2], [3]], [4, 3, 2, 0])

    def test_lot(self):
        for wide in (*STRANGE, "03", (0, 0), (0, 4), (3, 5), (-1, 3), (0, True), (0, 3.0), ([0], 3), (None,),
                     {0: 1}, (3, 10 ** 40), iter((0, 3))):
            self.fault("lot", wide, ((0, 1, 2), (3,)))
        self.fault("lot", (0,), (), ())

    def test_beside(self):
        for wide in ((0, 1), (2, 0), (3, 2), (0, 1, 2, 3), (0, 3, 2)):
            self.fault("beside", wide, ((0, 1, 2), (3,)))

    def test_chains(self):
        for chains in (*STRANGE, "ab", {(0, 1, 2): 1}, iter([(0, 1, 2)])):
            self.fault("chains", (0, 3), chains)
        for chain in (*STRANGE, (), [], 3, "3"):
            self.fault("chains", (0, 3), ((0, 1, 2), chain))
            self.fault("chains", (0, 3), [chain, [3], (0, 1, 2)])

    def test_part(self):
        for chains in ((), ((0, 1, 2),), ((0, 1, 2), (3, 3)), ((0, 1, 2), (3,), (0,)), ((0, 1, 2), (4,)),
                       ((0, 1, 2), (3, 4)), ((0, True, 2), (3,)), ((False, 1, 2), (3,)), ((0, 1, 2), (3.0,)),
                       ((0, 1, 2), ("3",)), ((0, 1, 2), ([3],)), ((0, 1, 2), (None,)), ((0, 1, 2), (10 ** 40,))):
            self.fault("part", (0, 3), chains)

    def test_chain(self):
        for chains in (((0, 2, 1), (3,)), ((1, 0, 2), (3,)), ((0, 1), (2, 3)), ((0, 1, 3, 2),), ((0, 3), (1, 2))):
            self.fault("chain", (0, 3), chains)
        # Each role is asked of the next one alone, which the closure leads on.
        self.fault(None, (0, 3), ((0, 2), (3,)), (0, 2, 3))

    def test_many(self):
        self.fault("many", (0, 3), ((0, 1), (2,), (3,)))
        self.fault("many", (0,), ((0, 1, 2), (3,)))
        self.fault("many", (), ((0, 1, 2), (3,)))

    def test_two_faults(self):
        self.fault("lot", (0, 0), None)
        self.fault("lot", (0, 1, 9), None)
        self.fault("beside", (0, 1), None)
        self.fault("chains", (0,), ((), (9,)))
        self.fault("chains", (0, 3), ((9,), ()))
        self.fault("part", (0,), ((1, 0), (2,)))
        self.fault("chain", (0,), ((1, 0, 2), (3,)))


if __name__ == "__main__":
    unittest.main()
