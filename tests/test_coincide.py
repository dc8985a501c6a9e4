"""[0.5], [0.10], [3.1] to [3.4]: what coincides, exchanges, clear frames."""

import unittest
from itertools import combinations

from looseorder.coincide import (Exchange, clear_frames, coinciding, coinciding_couples, exchange_fault,
                                 exchange_patterns, exchanges_of, first_exchange)
from looseorder.errors import BadExchange, NoFrame
from looseorder.patterns import check_pattern
from support import (NUMBERS, STRANGE, all_alike, are_tuples, four_stocks, great, nesting, one_frame, refuses,
                     roles_in, some_tongues, table_of, two_roles, walk_closure, walk_is_clear, walk_shown, words)

RANK = {"one": 0, "many": 1}


def tongues():
    return some_tongues(50, 31) + [two_roles(), two_roles([(1, 0)]), nesting(), nesting(agreed=1, rules=[(0, 3)]),
                                   four_stocks(), four_stocks([(3, 0)]), all_alike(4, [(0, 1), (2, 3)], 2),
                                   all_alike(1), all_alike(3, [(0, 1), (1, 2)])]


def walk_coinciding(tongue, frame):
    """All rows, from all couples of cells of all stocks."""
    found = []
    for stock in range(len(tongue.stocks)):
        for (role, number), ending in table_of(tongue, stock).items():
            for (other, mate), shown in table_of(tongue, stock).items():
                nouns = tongue.frames[frame].nouns
                if role < other and ending == shown and role in nouns and other in nouns:
                    found.append((role, other, stock, number, mate))
    return tuple(sorted(found, key=lambda row: (*row[:3], RANK[row[3]], RANK[row[4]])))


def beside(tongue, role, other):
    closure = walk_closure(tongue.rules)
    return (role, other) not in closure and (other, role) not in closure


def fields(exchange):
    return (exchange.frame, exchange.role, exchange.other, exchange.stock, exchange.number, exchange.mate)


class CoincidingTest(unittest.TestCase):
    def test_rows(self):
        tongue = one_frame(words("aa ba ab", 3))
        self.assertEqual(coinciding(tongue, 0), (
            (0, 1, 0, "one", "many"), (0, 1, 0, "many", "many"), (0, 2, 0, "one", "one"), (0, 2, 0, "many", "one"),
            (1, 2, 0, "one", "many"), (1, 2, 0, "many", "one")))
        self.assertEqual(coinciding_couples(tongue, 0), ((0, 1), (0, 2), (1, 2)))

    def test_against_all_cells(self):
        for tongue in tongues() + [great()]:
            for frame in range(len(tongue.frames)):
                rows = coinciding(tongue, frame)
                self.assertEqual(rows, walk_coinciding(tongue, frame))
                self.assertTrue(are_tuples(rows))
                self.assertEqual(coinciding_couples(tongue, frame), tuple(sorted({row[:2] for row in rows})))

    def test_rules_do_not_matter(self):
        free, chained = all_alike(3), all_alike(3, [(2, 1), (1, 0)])
        self.assertEqual(coinciding(free, 0), coinciding(chained, 0))
        self.assertEqual(coinciding_couples(chained, 0), ((0, 1), (0, 2), (1, 2)))

    def test_parts_are_not_joined(self):
        tongue = one_frame([(0, ("a", "b"), ("ab",)), (1, ("ab",), ("a", "b", "")), (2, ("", "ab"), ("ab", ""))])
        self.assertEqual(coinciding(tongue, 0), ((0, 1, 0, "many", "one"),))

    def test_clause_roles_and_single_nouns(self):
        tongue = nesting()
        self.assertEqual(coinciding_couples(tongue, 0), ((0, 1),))
        self.assertEqual([coinciding(tongue, frame) for frame in (2, 3)], [(), ()])
        self.assertEqual([coinciding_couples(tongue, frame) for frame in (2, 3)], [(), ()])

    def test_frame(self):
        for frame in (4, -1, *STRANGE):
            for call in (coinciding, coinciding_couples):
                refuses(self, NoFrame, {"frame": frame}, call, nesting(), frame)


class ExchangesTest(unittest.TestCase):
    def test_against_rows_and_rules(self):
        for tongue in tongues() + [great()]:
            rows = [(frame, *row) for frame in range(len(tongue.frames))
                    for row in walk_coinciding(tongue, frame) if beside(tongue, row[0], row[1])]
            found = list(exchanges_of(tongue))
            self.assertEqual([fields(exchange) for exchange in found], rows)
            self.assertTrue(all(type(exchange) is Exchange for exchange in found))
            self.assertEqual(first_exchange(tongue), found[0] if found else None)
            unclear = {exchange.frame for exchange in found}
            clear = tuple(frame for frame in range(len(tongue.frames)) if frame not in unclear)
            self.assertEqual(clear_frames(tongue), clear)

    def test_clear_exactly_if_no_patterns_are_heard_alike(self):
        kinds = set()
        for tongue in tongues():
            clear = tuple(f for f in range(len(tongue.frames)) if walk_is_clear(tongue, f))
            self.assertEqual(clear_frames(tongue), clear)
            self.assertEqual(first_exchange(tongue) is None, len(clear) == len(tongue.frames))
            kinds.add(len(clear) == len(tongue.frames))
        self.assertEqual(kinds, {True, False})

    def test_order_by_the_closure_alone(self):
        # 0 and 2 coincide and are in order over role 1, which the frame of both lacks.
        tongue = four_stocks([(0, 3), (3, 2)]).with_stock(0, words("ab cd ab ef", 4))
        self.assertIn((0, 2), coinciding_couples(tongue, 0))
        self.assertFalse([e for e in exchanges_of(tongue) if (e.role, e.other) == (0, 2)])
        self.assertEqual(clear_frames(tongue.with_rules([(0, 3)]))[:1], (1,))

    def test_rules_that_put_all_in_order(self):
        for many in range(1, 6):
            chain = [(role, role + 1) for role in range(many - 1)]
            self.assertIsNone(first_exchange(all_alike(many, chain)))
            self.assertEqual(clear_frames(all_alike(many, chain)), (0,))
            self.assertEqual(len(list(exchanges_of(all_alike(many)))), 4 * many * (many - 1) // 2)

    def test_agreement_makes_no_difference(self):
        for tongue in tongues():
            for frame, told in enumerate(tongue.frames):
                for agreed in (None, *told.nouns):
                    other = tongue.with_agreed(frame, agreed)
                    self.assertEqual(list(exchanges_of(other)), list(exchanges_of(tongue)))

    def test_a_further_rule_never_makes_a_clear_frame_unclear(self):
        for tongue in tongues():
            for role, other in combinations(range(len(tongue.roles)), 2):
                if beside(tongue, role, other):
                    self.assertLessEqual(set(clear_frames(tongue)), set(clear_frames(tongue.with_rule(role, other))))


class FaultTest(unittest.TestCase):
    def setUp(self):
        self.tongue = four_stocks()

    def fault(self, what, *told, tongue=None):
        exchange = Exchange(*told)
        self.assertEqual(exchange_fault(tongue or self.tongue, exchange), what, told)
        if what is not None:
            refuses(self, BadExchange, {"what": what}, exchange_patterns, tongue or self.tongue, exchange)

    def test_right(self):
        for tongue in tongues():
            for exchange in exchanges_of(tongue):
                self.assertIsNone(exchange_fault(tongue, exchange))

    def test_all_that_are_no_exchanges(self):
        tongue = four_stocks([(0, 3), (3, 1)])
        right = {fields(exchange) for exchange in exchanges_of(tongue)}
        for frame in range(4):
            for role in range(4):
                for told in [(frame, role, other, stock, number, mate) for other in range(4) for stock in range(4)
                             for number in NUMBERS for mate in NUMBERS]:
                    self.assertEqual(exchange_fault(tongue, Exchange(*told)) is None, told in right, told)

    def test_kind(self):
        for thing in (*STRANGE, (0, 0, 1, 0, "one", "one"), [0]):
            self.assertEqual(exchange_fault(self.tongue, thing), "kind")
            refuses(self, BadExchange, {"what": "kind"}, exchange_patterns, self.tongue, thing)

    def test_each_word(self):
        for frame in (4, -1, 10 ** 40, [0], *STRANGE):
            self.fault("frame", frame, 0, 1, 0, "one", "one")
        for role, other in ((1, 0), (0, 0), (0, 3), (3, 4), (-1, 0), (0, 10 ** 40)):
            self.fault("roles", 0, role, other, 0, "one", "one")
        for thing in ([0], *STRANGE):
            self.fault("roles", 0, thing, 1, 0, "one", "one")
            self.fault("roles", 0, 0, thing, 0, "one", "one")
        self.fault("roles", 3, 0, 1, 0, "one", "one")
        for stock in (1, 2, 3, 4, -1, 10 ** 40, [0], *STRANGE):
            self.fault("stock", 0, 0, 1, stock, "one", "one")
        for number in (0, "two", ["one"], *STRANGE):
            self.fault("numbers", 0, 0, 1, 0, number, "one")
            self.fault("numbers", 0, 0, 1, 0, "one", number)
        self.fault("shown", 0, 0, 1, 0, "one", "many")
        self.fault("shown", 0, 0, 2, 0, "one", "one")
        self.fault(None, 0, 0, 1, 0, "one", "one")
        for rules in ([(0, 1)], [(1, 0)], [(0, 3), (3, 1)]):
            self.fault("order", 0, 0, 1, 0, "one", "one", tongue=four_stocks(rules))

    def test_two_faults(self):
        self.fault("frame", 4, 1, 0, 9, "x", "x")
        self.fault("roles", 0, 1, 0, 9, "x", "x")
        self.fault("stock", 0, 0, 1, 9, "x", "x")
        self.fault("stock", 0, 0, 1, 1, "x", "x")
        self.fault("numbers", 0, 0, 2, 0, "x", "one")
        self.fault("shown", 0, 0, 1, 0, "one", "many", tongue=four_stocks([(0, 1)]))
        self.fault("numbers", 0, 0, 1, 0, "one", "x", tongue=four_stocks([(0, 1)]))


class PatternsTest(unittest.TestCase):
    def check(self, tongue, exchange):
        found = exchange_patterns(tongue, exchange)
        self.assertTrue(isinstance(found, tuple) and len(found) == 2 and are_tuples(found))
        one, other = found
        frame, role, mate, stock, number, mates = fields(exchange)
        self.assertEqual([check_pattern(tongue, frame, pattern) for pattern in found], [one, other])
        self.assertEqual(walk_shown(tongue, frame, one), walk_shown(tongue, frame, other))
        at = roles_in(one).index(role)
        self.assertEqual(one[at:at + 2], ((role, stock, number), (mate, stock, mates)))
        self.assertEqual(other[at:at + 2], ((mate, stock, mates), (role, stock, number)))
        self.assertEqual((one[:at], one[at + 2:]), (other[:at], other[at + 2:]))

    def test_all_exchanges(self):
        for tongue in tongues() + [great()]:
            for exchange in exchanges_of(tongue):
                self.check(tongue, exchange)

    def test_roles_that_can_be_neighbours_in_the_middle_alone(self):
        tongue = all_alike(5, [(0, 1), (0, 3), (1, 4), (3, 4), (4, 2)], 3)
        self.assertEqual({(e.role, e.other) for e in exchanges_of(tongue)}, {(1, 3)})
        for exchange in exchanges_of(tongue):
            self.check(tongue, exchange)

    def test_far_roles_between(self):
        # Role 1 is not in the frame of 0 and 2, but its rules count.
        tongue = four_stocks([(1, 0)]).with_stock(0, words("ab cd ab ab", 4))
        for exchange in exchanges_of(tongue):
            self.check(tongue, exchange)

    def test_nothing_changes(self):
        tongue, exchange = four_stocks(), Exchange(0, 0, 1, 0, "one", "one")
        exchange_patterns(tongue, exchange)
        self.assertEqual((tongue, exchange), (four_stocks(), Exchange(0, 0, 1, 0, "one", "one")))


if __name__ == "__main__":
    unittest.main()
