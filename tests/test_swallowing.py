"""[6.1] to [6.3]: tongues that stay clear with so many endings swallowed."""

import unittest
from itertools import combinations

from looseorder.coincide import Exchange, exchanges_of, first_exchange
from looseorder.errors import BadMany, BadSwallowed
from looseorder.patterns import check_pattern
from looseorder.shown import hide_endings
from looseorder.swallowing import (Swallowed, first_swallowed, is_order_alone, swallowed_fault, swallowed_patterns)
from support import (NUMBERS, STRANGE, all_alike, are_tuples, four_stocks, great, nesting, one_frame, refuses,
                     roles_in, some_tongues, table_of, two_roles, walk_closure, walk_patterns, walk_shown, words)


def tongues():
    return some_tongues(30, 61, 3) + [
        two_roles(), two_roles([(0, 1)]), nesting(agreed=1), nesting(rules=[(0, 1), (1, 3)]), four_stocks(),
        four_stocks([(0, 1), (1, 2)]), all_alike(1), all_alike(3, [(0, 1), (1, 2)]), one_frame(words("ab cd", 2)),
        one_frame(words("ab cd ef", 3), [(0, 1)], 2), one_frame(words("ab cd ef gh", 4), [(0, 1), (1, 2), (2, 3)])]


def is_clear_with(tongue, hidden):
    """No two patterns with unlike roles are the same with the same endings of so many places or fewer swallowed."""
    for frame in range(len(tongue.frames)):
        met = {}
        for pattern in walk_patterns(tongue, frame):
            things, number = walk_shown(tongue, frame, pattern)
            nouns = [place for place, thing in enumerate(things) if thing is not None]
            for places in [lot for size in range(hidden + 1) for lot in combinations(nouns, size)]:
                told = tuple((t[0], None) if at in places else t for at, t in enumerate(things))
                if met.setdefault((told, number, places), roles_in(pattern)) != roles_in(pattern):
                    return False
    return True


def borne_together(tongue):
    """All rows (frame, role, other, stock) of noun roles side by side that a stock bears."""
    closure = walk_closure(tongue.rules)
    return [(frame, a, b, stock) for frame, told in enumerate(tongue.frames) for a, b in combinations(told.nouns, 2)
            for stock in range(len(tongue.stocks))
            if {(a, "one"), (b, "one")} <= set(table_of(tongue, stock))
            and (a, b) not in closure and (b, a) not in closure]


def fields(swallowed):
    e = swallowed.exchange
    return e.frame, e.role, e.other, e.stock, e.number, e.mate, swallowed.hidden


class FirstTest(unittest.TestCase):
    def test_none_exactly_if_clear(self):
        kinds = set()
        for tongue in tongues():
            clear = tuple(first_swallowed(tongue, hidden) is None for hidden in range(6))
            self.assertEqual(clear, tuple(is_clear_with(tongue, hidden) for hidden in range(6)))
            self.assertEqual(clear[0], clear[1])
            self.assertEqual(len(set(clear[2:])), 1)
            self.assertIs(is_order_alone(tongue), clear[2])
            kinds.add((clear[0], clear[2]))
        self.assertEqual(kinds, {(True, True), (True, False), (False, False)})

    def test_which(self):
        for tongue in tongues() + [great()]:
            exchange = first_exchange(tongue)
            for hidden in (0, 1):
                found = first_swallowed(tongue, hidden)
                self.assertEqual(found, None if exchange is None else Swallowed(exchange, 0))
            rows = borne_together(tongue)
            for hidden in range(2, 6):
                found = first_swallowed(tongue, hidden)
                if rows:
                    self.assertEqual((type(found), type(found.exchange)), (Swallowed, Exchange))
                    self.assertEqual(fields(found), (*rows[0], "one", "one", 2))
                else:
                    self.assertIsNone(found)
            self.assertIs(is_order_alone(tongue), rows == [])

    def test_wrong(self):
        for hidden in (-1, 6, 10 ** 40, "2", [2], *STRANGE):
            refuses(self, BadMany, {}, first_swallowed, two_roles(), hidden)
            refuses(self, BadMany, {}, first_swallowed, all_alike(1), hidden)

    def test_nothing_changes(self):
        tongue = nesting()
        first_swallowed(tongue, 2)
        is_order_alone(tongue)
        self.assertEqual(tongue, nesting())


class FaultTest(unittest.TestCase):
    """Stock 0 of four_stocks: 0 and 1 are "ab", 2 is "cd"; stock 1 bears 1 and 2 in "b"."""

    def fault(self, what, frame, role, other, stock, number, mate, hidden, tongue=None):
        told = tongue or four_stocks()
        swallowed = Swallowed(Exchange(frame, role, other, stock, number, mate), hidden)
        self.assertEqual(swallowed_fault(told, swallowed), what)
        if what is not None:
            refuses(self, BadSwallowed, {"what": what}, swallowed_patterns, told, swallowed)

    def test_right(self):
        self.fault(None, 0, 0, 1, 0, "one", "one", 0)
        self.fault(None, 0, 0, 1, 0, "one", "many", 2)
        self.fault(None, 0, 0, 2, 0, "many", "one", 2)
        self.fault(None, 0, 1, 2, 1, "many", "one", 0)

    def test_each_word(self):
        for frame in (4, -1, 10 ** 40, [0], *STRANGE):
            self.fault("frame", frame, 0, 1, 0, "one", "one", 2)
        for role, other in ((1, 0), (0, 0), (0, 3), (3, 4), (-1, 0), (0, 10 ** 40)):
            self.fault("role", 0, role, other, 0, "one", "one", 2)
        for thing in ([0], *STRANGE):
            self.fault("role", 0, thing, 1, 0, "one", "one", 2)
            self.fault("role", 0, 0, thing, 0, "one", "one", 2)
        # The clause role is no noun role.
        self.fault("role", 3, 0, 1, 0, "one", "one", 2)
        for stock in (1, 2, 3, 4, -1, 10 ** 40, [0], *STRANGE):
            self.fault("stock", 0, 0, 1, stock, "one", "one", 2)
        for number in (0, "two", ["one"], *STRANGE):
            self.fault("number", 0, 0, 1, 0, number, "one", 2)
            self.fault("number", 0, 0, 1, 0, "one", number, 2)
        for rules in ([(0, 1)], [(1, 0)], [(0, 3), (3, 1)]):
            self.fault("order", 0, 0, 1, 0, "one", "one", 2, four_stocks(rules))
        for hidden in (1, 3, -1, 5, 10 ** 40, [2], 2.0, "2", *STRANGE):
            self.fault("hidden", 0, 0, 1, 0, "one", "one", hidden)
        self.fault("shown", 0, 0, 1, 0, "one", "many", 0)
        self.fault("shown", 0, 0, 2, 0, "one", "one", 0)

    def test_two_faults(self):
        self.fault("frame", 4, 1, 0, 9, 9, 9, 9)
        self.fault("role", 0, 1, 0, 9, 9, 9, 9)
        self.fault("stock", 0, 0, 1, 1, 9, 9, 9)
        self.fault("number", 0, 0, 1, 0, 9, "one", 9, four_stocks([(0, 1)]))
        self.fault("order", 0, 0, 1, 0, "one", "many", 9, four_stocks([(0, 1)]))
        self.fault("order", 0, 0, 1, 0, "one", "many", 0, four_stocks([(0, 1)]))
        self.fault("hidden", 0, 0, 1, 0, "one", "many", 1)

    def test_all(self):
        for tongue in tongues()[::2]:
            exchanges = list(exchanges_of(tongue))
            right = {(*row, number, mate, 2) for row in borne_together(tongue)
                     for number in NUMBERS for mate in NUMBERS}
            right |= {(e.frame, e.role, e.other, e.stock, e.number, e.mate, 0) for e in exchanges}
            for frame in range(len(tongue.frames)):
                for role, other in combinations(range(len(tongue.roles)), 2):
                    for told in [(frame, role, other, stock, number, mate, hidden) for hidden in (0, 1, 2)
                                 for stock in range(len(tongue.stocks)) for number in NUMBERS for mate in NUMBERS]:
                        swallowed = Swallowed(Exchange(*told[:6]), told[6])
                        self.assertEqual(swallowed_fault(tongue, swallowed) is None, told in right)


class PatternsTest(unittest.TestCase):
    def check(self, tongue, swallowed):
        frame, role, mate, stock, number, mates, hidden = fields(swallowed)
        found = swallowed_patterns(tongue, swallowed)
        self.assertTrue(isinstance(found, tuple) and len(found) == 3 and are_tuples(found))
        one, other, places = found
        for pattern in (one, other):
            self.assertEqual(check_pattern(tongue, frame, pattern), pattern)
        at = min(roles_in(one).index(role), roles_in(one).index(mate))
        told = {(role, stock, number), (mate, stock, mates)}
        self.assertEqual((set(one[at:at + 2]), set(other[at:at + 2])), (told, told))
        self.assertEqual(one[at:at + 2], other[at:at + 2][::-1])
        self.assertEqual((one[:at], one[at + 2:]), (other[:at], other[at + 2:]))
        self.assertEqual(places, () if hidden == 0 else (at, at + 1))
        shown = [walk_shown(tongue, frame, pattern) for pattern in (one, other)]
        self.assertEqual(hide_endings(shown[0][0], places), hide_endings(shown[1][0], places))
        self.assertEqual(shown[0][1], shown[1][1])

    def test_all(self):
        for tongue in tongues() + [great()]:
            for exchange in exchanges_of(tongue):
                self.check(tongue, Swallowed(exchange, 0))
            for row in borne_together(tongue):
                for number, mate in (("one", "one"), ("one", "many"), ("many", "one")):
                    self.check(tongue, Swallowed(Exchange(*row, number, mate), 2))

    def test_nothing_changes(self):
        tongue, swallowed = four_stocks(), Swallowed(Exchange(0, 0, 1, 0, "one", "one"), 2)
        swallowed_patterns(tongue, swallowed)
        self.assertEqual((tongue, swallowed), (four_stocks(), Swallowed(Exchange(0, 0, 1, 0, "one", "one"), 2)))


if __name__ == "__main__":
    unittest.main()
