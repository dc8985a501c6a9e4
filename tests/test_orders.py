"""[0.3], [4.1], [4.2]: the orders of a frame and ways from one to another."""

import copy
import unittest
from collections import deque
from itertools import combinations
from random import Random

from looseorder.errors import NoFrame, NoOrder
from looseorder.orders import (check_order, couples_apart, how_many_orders, order_at, order_place, order_way_fault,
                               orders_of, way_of_orders)
from support import (STRANGE, all_alike, are_tuples, four_stocks, great, nesting, refuses, some_tongues, two_roles,
                     walk_orders)


def tongues():
    return some_tongues(40, 41) + [two_roles(), two_roles([(1, 0)]), nesting(), nesting(rules=[(2, 0), (3, 1)]),
                                   four_stocks([(0, 3), (3, 2)]), all_alike(1)]


def frames_of(tongues):
    return [(tongue, frame) for tongue in tongues for frame in range(len(tongue.frames))]


def is_exchange(one, other):
    at = [place for place in range(len(one)) if one[place] != other[place]]
    return len(at) == 2 and at[1] == at[0] + 1 and one[at[0]] == other[at[1]] and one[at[1]] == other[at[0]]


def distances(orders, start):
    """The fewest exchanges of neighbours from an order to each, through orders alone."""
    found = {start: 0}
    waiting = deque([start])
    while waiting:
        order = waiting.popleft()
        for other in orders:
            if other not in found and is_exchange(order, other):
                found[other] = found[order] + 1
                waiting.append(other)
    return found


class OrdersTest(unittest.TestCase):
    def test_all_orders(self):
        for tongue, frame in frames_of(tongues() + [great()]):
            orders = walk_orders(tongue, frame)
            self.assertEqual(list(orders_of(tongue, frame)), orders)
            self.assertEqual(how_many_orders(tongue, frame), len(orders))
            self.assertTrue(are_tuples(tuple(orders_of(tongue, frame))))
            for place, order in enumerate(orders):
                self.assertEqual(order_place(tongue, frame, list(order)), place)
                self.assertEqual(order_at(tongue, frame, place), order)
                self.assertEqual(check_order(tongue, frame, list(order)), order)
                self.assertIs(type(order_at(tongue, frame, place)), tuple)

    def test_roles_that_a_frame_lacks_count(self):
        tongue = four_stocks([(0, 3), (3, 2)])
        self.assertEqual(list(orders_of(tongue, 0)), [(0, 1, 2), (0, 2, 1), (1, 0, 2)])
        self.assertEqual(how_many_orders(tongue.with_rules([(0, 3)]), 0), 6)
        refuses(self, NoOrder, {}, check_order, tongue, 0, (2, 0, 1))

    def test_one_role_and_six(self):
        self.assertEqual(list(orders_of(all_alike(1), 0)), [(0,)])
        tongue = great()
        self.assertEqual(how_many_orders(tongue.with_rules([]), 0), 720)
        self.assertEqual(order_at(tongue.with_rules([]), 0, 719), (5, 4, 3, 2, 1, 0))
        chain = [(role, role + 1) for role in range(5)]
        self.assertEqual(list(orders_of(tongue.with_rules(chain), 0)), [(0, 1, 2, 3, 4, 5)])

    def test_frame(self):
        for frame in (4, -1, *STRANGE):
            for call, more in ((lambda tongue, told: list(orders_of(tongue, told)), ()), (how_many_orders, ()),
                               (check_order, (None,)), (order_place, (None,)), (order_at, (None,)),
                               (couples_apart, (None, None)), (way_of_orders, (None, None)),
                               (order_way_fault, (None, None, None))):
                refuses(self, NoFrame, {"frame": frame}, call, nesting(), frame, *more)

    def test_no_order(self):
        tongue = nesting(rules=[(0, 1)])
        wrong = [*STRANGE, (), (0, 1), (0, 1, 2, 3), (0, 1, 3), (0, 1, 1), (1, 0, 2), [2, 1, 0], (0, True, 2),
                 (False, 1, 2), (0, 1.0, 2), (0, "1", 2), ([0], 1, 2), (0, 1, -1), (0, 1, 10 ** 40), "012",
                 {0: 0, 1: 1, 2: 2}, iter((0, 1, 2)), (0, 1, None)]
        for order in wrong:
            refuses(self, NoOrder, {}, check_order, tongue, 0, order)
            refuses(self, NoOrder, {}, order_place, tongue, 0, order)
            for call in (couples_apart, way_of_orders):
                refuses(self, NoOrder, {}, call, tongue, 0, order, (0, 1, 2))
                refuses(self, NoOrder, {}, call, tongue, 0, (0, 1, 2), order)
            refuses(self, NoOrder, {}, order_way_fault, tongue, 0, order, (0, 1, 2), [(0, 1, 2)])
            refuses(self, NoOrder, {}, order_way_fault, tongue, 0, (0, 1, 2), order, [(0, 1, 2)])

    def test_no_place(self):
        for place in (-1, 3, 10 ** 40, [0], *STRANGE):
            refuses(self, NoOrder, {}, order_at, nesting(rules=[(0, 1)]), 0, place)
        self.assertEqual(order_at(nesting(rules=[(0, 1)]), 0, 2), (2, 0, 1))


class WaysTest(unittest.TestCase):
    def check(self, tongue, frame, one, other, fewest):
        apart = couples_apart(tongue, frame, one, other)
        told = tuple((a, b) for a, b in combinations(sorted(one), 2)
                     if (one.index(a) < one.index(b)) != (other.index(a) < other.index(b)))
        self.assertEqual(apart, told)
        self.assertEqual(len(apart), fewest)
        way = way_of_orders(tongue, frame, one, other)
        self.assertTrue(are_tuples(way) and are_tuples(apart))
        self.assertEqual((way[0], way[-1], len(way)), (one, other, fewest + 1))
        self.assertTrue(all(is_exchange(before, behind) for before, behind in zip(way, way[1:])))
        self.assertEqual([check_order(tongue, frame, order) for order in way], list(way))
        self.assertIsNone(order_way_fault(tongue, frame, one, other, way))

    def test_fewest_exchanges(self):
        for tongue, frame in frames_of(tongues()):
            orders = walk_orders(tongue, frame)
            for one in orders[::5]:
                for other, fewest in distances(orders, one).items():
                    self.check(tongue, frame, one, other, fewest)
                self.assertEqual(len(distances(orders, one)), len(orders))

    def test_six_slots(self):
        tongue = great().with_rules([(0, 3), (5, 1)])
        orders = walk_orders(tongue, 0)
        source = Random(42)
        for one in source.sample(orders, 2):
            fewest = distances(orders, one)
            for other in source.sample(orders, 20):
                self.check(tongue, 0, one, other, fewest[other])

    def test_equal_orders(self):
        self.assertEqual(way_of_orders(all_alike(3), 0, [2, 0, 1], (2, 0, 1)), ((2, 0, 1),))
        self.assertEqual(couples_apart(all_alike(3), 0, [2, 0, 1], (2, 0, 1)), ())
        self.assertIsNone(order_way_fault(all_alike(3), 0, [2, 0, 1], (2, 0, 1), [[2, 0, 1]]))

    def test_nothing_changes(self):
        one, other, way = [0, 1, 2], [2, 1, 0], [[0, 1, 2], [1, 0, 2], [1, 2, 0], [2, 1, 0]]
        kept = copy.deepcopy((one, other, way))
        couples_apart(all_alike(3), 0, one, other)
        way_of_orders(all_alike(3), 0, one, other)
        self.assertIsNone(order_way_fault(all_alike(3), 0, one, other, way))
        self.assertEqual((one, other, way), kept)


class FaultTest(unittest.TestCase):
    def fault(self, what, way, one=(0, 1, 2), other=(2, 1, 0), rules=()):
        self.assertEqual(order_way_fault(all_alike(3, rules), 0, one, other, way), what, way)

    def test_right(self):
        self.fault(None, ((0, 1, 2), (0, 2, 1), (2, 0, 1), (2, 1, 0)))
        self.fault(None, [[0, 1, 2], (1, 0, 2), [1, 2, 0], (2, 1, 0)], [0, 1, 2], [2, 1, 0])

    def test_begin(self):
        for way in (*STRANGE, (), [], "012", {0: (0, 1, 2)}, iter([(0, 1, 2)])):
            self.fault("begin", way)
        for thing in (*STRANGE, (0, 2, 1), (0, 1), (0, 1, 2, 2), (False, 1, 2), (0, True, 2), (0.0, 1, 2), ([0], 1, 2)):
            self.fault("begin", [thing, (0, 1, 2)])

    def test_order(self):
        for thing in (*STRANGE, (), (0, 1), (0, 2, 1, 1), (1, False, 2), (0, 2, True), ([0], 2, 1), "102"):
            self.fault("order", [(0, 1, 2), thing])
        self.fault("order", [(0, 1, 2), (1, 0, 2)], other=(0, 1, 2), rules=[(0, 1)])

    def test_step(self):
        for thing in ((0, 1, 2), (2, 1, 0), (1, 2, 0), [2, 0, 1]):
            self.fault("step", [(0, 1, 2), thing])

    def test_end(self):
        self.fault("end", [(0, 1, 2)])
        self.fault("end", [(0, 1, 2), (0, 2, 1), (0, 1, 2), (1, 0, 2), (0, 1, 2)])

    def test_long(self):
        self.fault("long", [(0, 1, 2), (1, 0, 2), (0, 1, 2), (1, 0, 2), (1, 2, 0), (2, 1, 0)])
        self.fault("long", [(0, 1, 2), (1, 0, 2), (0, 1, 2)], other=[0, 1, 2])

    def test_two_faults(self):
        self.fault("begin", [(0, 2, 1), None])
        # Thing by thing: a step that is wrong is told ahead of a later thing that is no order.
        self.fault("step", [(0, 1, 2), (2, 1, 0), None])
        self.fault("order", [(0, 1, 2), (1, 0, 2), None, (1, 0, 2)])
        self.fault("order", [(0, 1, 2), (1, 2, 0), (2, 1, 0)], rules=[(0, 1)], other=(0, 2, 1))
        self.fault("end", [(0, 1, 2), (1, 0, 2), (0, 1, 2), (1, 0, 2), (0, 1, 2), (1, 0, 2)])


if __name__ == "__main__":
    unittest.main()
