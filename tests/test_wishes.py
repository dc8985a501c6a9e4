"""[10.8]: wishes, and why they are not granted."""

import unittest
from itertools import permutations, product
from random import Random

from looseorder.closed import closed_ring
from looseorder.coincide import Exchange, first_exchange
from looseorder.doubts import SameNumber, first_doubt, same_numbers
from looseorder.errors import BadWish
from looseorder.rings import Ring, ring_fault
from looseorder.swallowing import Swallowed, first_swallowed
from looseorder.wishes import Broken, broken_fault, broken_wish, check_wishes
from support import (STRANGE, Sayable, all_alike, are_tuples, four_stocks, great, nesting, one_frame, refuses,
                     roles_in, some_tongues, tiny, two_roles, walk_alike, walk_orders, walk_patterns, walk_shown,
                     walk_taken, words)
from test_changes import listed

SEVEN = (("clear",), ("wholly",), ("swallowed", 5), ("orders", 3, 2), ("endings", 1, 2), ("counts", (3, 0)),
         ("safe", (3, 2, 1, 0), 0, 1))


def tongues():
    found = some_tongues(24, 221, 3) + [two_roles(), two_roles([(0, 1)]), all_alike(1), all_alike(2, [(0, 1)])]
    found += [one_frame(words(text, 2), (), agreed) for text in ("ab cd", "aa bb", "ab bc") for agreed in (None, 0)]
    return found + [four_stocks([(0, 1), (1, 2)]), tiny("free", 0), tiny("last", None, [(0, 1), (2, 0)])]


def is_clear(tongue, hidden=0, counts=None):
    """No two patterns with unlike roles are heard alike, with so many endings swallowed, and within the counts."""
    for frame in range(len(tongue.frames)):
        met = {}
        for pattern in walk_patterns(tongue, frame):
            stocks = [entry[1] for entry in pattern]
            if counts is not None and any(stocks.count(stock) > count for stock, count in enumerate(counts)):
                continue
            things, number = walk_shown(tongue, frame, pattern)
            nouns = [place for place, thing in enumerate(things) if thing is not None]
            for places in [lot for lot in product((False, True), repeat=len(nouns)) if sum(lot) <= hidden]:
                gone = [place for place, is_gone in zip(nouns, places) if is_gone]
                told = tuple((t[0], None) if at in gone else t for at, t in enumerate(things))
                if met.setdefault((told, number, places), roles_in(pattern)) != roles_in(pattern):
                    return False
    return True


def is_wholly_clear(tongue):
    return all(len(lot) == 1 for frame in range(len(tongue.frames)) for lot in walk_alike(tongue, frame))


def count_safe(tongue, habit, frame):
    unsafe = set()
    for pattern in walk_patterns(tongue, frame):
        things, number = walk_shown(tongue, frame, pattern)
        if roles_in(walk_taken(tongue, habit, frame, things, number)[0]) != roles_in(pattern):
            unsafe.add(roles_in(pattern))
    return len(walk_orders(tongue, frame)) - len(unsafe)


def granted(tongue, wish):
    """Whether a tongue grants a wish, by walks; or the count that there is."""
    if wish[0] == "clear":
        return is_clear(tongue)
    if wish[0] == "wholly":
        return is_wholly_clear(tongue)
    if wish[0] == "swallowed":
        return is_clear(tongue, wish[1])
    if wish[0] == "counts":
        return is_clear(tongue, 0, wish[1])
    if wish[0] == "orders":
        return len(walk_orders(tongue, wish[1])) >= wish[2]
    if wish[0] == "endings":
        return len({ending for row in tongue.stocks[wish[1]].table for ending in row[1:]}) <= wish[2]
    return count_safe(tongue, wish[1], wish[2]) >= wish[3]


def some_wishes(tongue, source, many):
    """So many wishes of the seven forms."""
    found = []
    for _ in range(many):
        frame, stock = source.randrange(len(tongue.frames)), source.randrange(len(tongue.stocks))
        habit = source.sample(range(len(tongue.roles)), len(tongue.roles))
        found.append(source.choice((
            ("clear",), ("wholly",), ("swallowed", source.randint(0, 5)), ("orders", frame, source.randint(0, 3)),
            ("endings", stock, source.randint(0, 4)), ("safe", tuple(habit), frame, source.randint(0, 3)),
            ("counts", tuple(source.randint(0, 3) for _ in tongue.stocks)))))
    return tuple(found)


class CheckTest(unittest.TestCase):
    def test_in_tuples(self):
        tongue = nesting()
        for wishes in [SEVEN[:6], SEVEN[1:], *[(wish,) for wish in SEVEN], [("clear",)] * 6]:
            found = check_wishes(tongue, listed(wishes))
            self.assertEqual(found, tuple(wishes))
            self.assertEqual(check_wishes(tongue, tuple(wishes)), tuple(wishes))
            self.assertTrue(isinstance(found, tuple) and are_tuples(found))

    def refused(self, index, wishes):
        for call in (check_wishes, broken_wish, lambda told, more: broken_fault(told, more, None)):
            refuses(self, BadWish, {"index": index}, call, nesting(), wishes)

    def test_many(self):
        for wishes in ((), [], SEVEN, [None] * 7, "clear", *STRANGE):
            self.refused(0, wishes)

    def test_each_form(self):
        wholes = (-1, "1", [1], *STRANGE)
        wrong = [(), ("clear", 1), ("wholly", 1), ("swallowed",), ("swallowed", 1, 1), ("orders", 0),
                 ("orders", 0, 1, 1), ("endings", 0), ("endings", 0, 1, 1), ("counts",), ("counts", (1, 1), 1), ("safe", (0, 1, 2, 3), 0),
                 ("safe", (0, 1, 2, 3), 0, 1, 1), ("Clear",), ("unclear",), (["clear"],), "clear", "c", *STRANGE]
        wrong += [(thing,) for thing in STRANGE]
        wrong += [("swallowed", thing) for thing in (6, *wholes)]
        for thing in wholes:
            wrong += [("orders", 0, thing), ("endings", 0, thing), ("safe", (0, 1, 2, 3), 0, thing)]
            wrong += [("orders", thing, 0), ("endings", thing, 0), ("safe", (0, 1, 2, 3), thing, 0)]
            wrong += [("counts", (thing, 1)), ("counts", (1, thing))]
        wrong += [("orders", 4, 0), ("endings", 2, 0), ("safe", (0, 1, 2, 3), 4, 0), ("counts", (15, 0))]
        wrong += [("counts", counts) for counts in ((), (1,), (1, 1, 1), "ab", *STRANGE)]
        habits = ((), (0, 1, 2), (0, 1, 2, 2), (0, 1, 2, 4), (0, True, 2, 3), *STRANGE)
        wrong += [("safe", habit, 0, 0) for habit in habits]
        for wish in wrong:
            self.refused(0, [wish])
            self.refused(2, [("clear",), ["swallowed", 0], wish, None])

    def test_no_bound_above(self):
        wishes = (("orders", 0, 10 ** 40), ("endings", 0, 10 ** 40), ("safe", (0, 1, 2, 3), 0, 10 ** 40),
                  ("counts", (14, 14)))
        self.assertEqual(check_wishes(nesting(), wishes), wishes)

    def test_nothing_changes(self):
        tongue, wishes = nesting(), listed(SEVEN[1:])
        check_wishes(tongue, wishes)
        broken = broken_wish(tongue, wishes)
        broken_fault(tongue, wishes, broken)
        self.assertEqual((tongue, wishes), (nesting(), listed(SEVEN[1:])))


class BrokenTest(unittest.TestCase):
    def test_each_wish(self):
        source = Random(222)
        met = set()
        for tongue in tongues():
            for wish in some_wishes(tongue, source, 8) + (("clear",), ("wholly",)):
                found = broken_wish(tongue, [wish])
                met.add((wish[0], found is None))
                self.assertEqual(found is None, granted(tongue, wish), wish)
                if found is not None:
                    self.check(tongue, (wish,), found, 0)
        self.assertEqual(met, {(wish[0], is_granted) for wish in SEVEN for is_granted in (True, False)})

    def test_the_first_of_several(self):
        source = Random(223)
        met = set()
        for tongue in tongues():
            for many in (2, 4, 6):
                wishes = some_wishes(tongue, source, many)
                broken = [at for at, wish in enumerate(wishes) if not granted(tongue, wish)]
                found = broken_wish(tongue, listed(wishes))
                met.add(min(broken, default=None))
                if not broken:
                    self.assertIsNone(found)
                else:
                    self.check(tongue, wishes, found, broken[0])
        self.assertTrue(met >= {None, 0, 1, 2, 3})

    def check(self, tongue, wishes, found, index):
        """The place and a right cause; the judge lets it."""
        wish = wishes[index]
        self.assertEqual((type(found), found.index), (Broken, index))
        self.assertIsNone(broken_fault(tongue, listed(wishes), found))
        kinds = {"clear": (Exchange,), "wholly": (Exchange, SameNumber), "swallowed": (Swallowed,), "counts": (Ring,)}
        self.assertIn(type(found.why), kinds.get(wish[0], (int,)))
        if wish[0] == "swallowed":
            self.assertLessEqual(found.why.hidden, wish[1])
        if wish[0] == "counts":
            self.assertIsNone(ring_fault(tongue, found.why, wish[1]))
        if wish[0] == "orders":
            self.assertEqual(found.why, len(walk_orders(tongue, wish[1])))
        if wish[0] == "endings":
            self.assertEqual(found.why, len({ending for row in tongue.stocks[wish[1]].table for ending in row[1:]}))
        if wish[0] == "safe":
            self.assertEqual(found.why, count_safe(tongue, wish[1], wish[2]))

    def test_least_and_most_of_nothing(self):
        for tongue in tongues():
            habit = tuple(range(len(tongue.roles)))
            self.assertIsNone(broken_wish(tongue, [("orders", 0, 0), ("safe", habit, 0, 0)]))
            self.assertIsNone(broken_wish(tongue, [("orders", 0, 1), ("safe", habit, 0, 1)]))
            found = broken_wish(tongue, [("endings", 0, 0)])
            self.assertEqual(found, Broken(0, len(tongue.stocks[0].endings)))

    def test_bounds(self):
        tongue = all_alike(3)
        for habit in permutations(range(3)):
            self.assertIsNone(broken_wish(tongue, [("safe", habit, 0, 1), ("orders", 0, 6), ("endings", 0, 1)]))
            self.assertEqual(broken_wish(tongue, [("orders", 0, 6), ("safe", habit, 0, 2)]), Broken(1, 1))
        self.assertEqual(broken_wish(tongue, [("orders", 0, 7)]), Broken(0, 6))
        self.assertIsNone(broken_wish(tongue, [("counts", (1,))]))
        self.assertEqual(broken_wish(tongue, [("counts", (1,)), ("counts", (3,))]).index, 1)

    def test_great(self):
        found = broken_wish(great(), [("orders", 0, 1), ("counts", (1, 1, 1, 1)), ("clear",)])
        self.assertIn(found.index, (1, 2))
        self.assertIsNone(broken_fault(great(), [("orders", 0, 1), ("counts", (1, 1, 1, 1)), ("clear",)], found))

    def test_result(self):
        made = Broken(2, [3])
        self.assertEqual((made.index, made.why), (2, [3]))
        self.assertNotEqual(made, Broken(2, (3,)))


class FaultTest(unittest.TestCase):
    """Two roles that one stock shows alike in "one" and each alike in no numbers."""

    def judged(self, what, tongue, wishes, broken):
        self.assertEqual(broken_fault(tongue, wishes, broken), what)

    def test_broken_and_index(self):
        tongue, wishes = two_roles(), [("clear",), ("wholly",)]
        why = first_exchange(tongue)
        for thing in (why, (0, why), Sayable(), *STRANGE):
            self.judged("broken", tongue, wishes, thing)
        for index in (2, -1, 10 ** 40, "0", [0], *STRANGE):
            self.judged("index", tongue, wishes, Broken(index, why))
            self.judged("index", tongue, wishes, Broken(index, None))

    def test_wishes_ahead_are_not_asked(self):
        tongue = two_roles()
        why = first_exchange(tongue)
        self.judged(None, tongue, [("orders", 0, 99), ("clear",)], Broken(1, why))
        self.judged(None, tongue, [("clear",), ("orders", 0, 99)], Broken(1, 2))
        self.judged("why", tongue, [("clear",), ("orders", 0, 2)], Broken(1, 2))

    def test_clear(self):
        tongue = two_roles()
        right = Exchange(0, 0, 1, 0, "one", "one")
        self.judged(None, tongue, [("clear",)], Broken(0, right))
        wrong = [Exchange(0, 0, 1, 0, "one", "many"), Exchange(1, 0, 1, 0, "one", "one"),
                 Exchange(0, 1, 0, 0, "one", "one"), Swallowed(right, 0), SameNumber(0, 0, 0), Broken(0, right), 0, *STRANGE]
        for why in wrong:
            self.judged("why", tongue, [("clear",)], Broken(0, why))
        self.judged("why", two_roles([(0, 1)]), [("clear",)], Broken(0, right))
        # Any exchange is right, not the first alone.
        self.judged(None, all_alike(3), [("clear",)], Broken(0, Exchange(0, 1, 2, 0, "many", "one")))

    def test_wholly(self):
        tongue = one_frame(words("aa ab", 2), (), 1)
        right = [Exchange(0, 0, 1, 0, "many", "one"), SameNumber(0, 0, 0)]
        for why in right:
            self.judged(None, tongue, [("wholly",)], Broken(0, why))
        wrong = [SameNumber(0, 1, 0), SameNumber(1, 0, 0), SameNumber(0, 0, 1), SameNumber(None, None, None),
                 Exchange(0, 0, 1, 0, "many", "many"), Swallowed(right[0], 0), 0, *STRANGE]
        for why in wrong:
            self.judged("why", tongue, [("wholly",)], Broken(0, why))
        self.judged("why", tongue, [("clear",)], Broken(0, right[1]))
        whole = one_frame(words("ab cd", 2))
        for why in right:
            self.judged("why", whole, [("wholly",)], Broken(0, why))

    def test_swallowed(self):
        tongue = two_roles()
        exchange = Exchange(0, 0, 1, 0, "one", "one")
        for count in range(6):
            self.judged(None, tongue, [("swallowed", count)], Broken(0, Swallowed(exchange, 0)))
            what = None if count >= 2 else "why"
            self.judged(what, tongue, [("swallowed", count)], Broken(0, Swallowed(exchange, 2)))
            unlike = Swallowed(Exchange(0, 0, 1, 0, "one", "many"), 2)
            self.judged(what, tongue, [("swallowed", count)], Broken(0, unlike))
            wrong = [Swallowed(exchange, 1), Swallowed(exchange, None), Swallowed(None, 0), Swallowed((0, 0, 1), 2),
                     Swallowed(Exchange(0, 0, 1, 0, "one", "many"), 0), Swallowed(SameNumber(0, 0, 0), 0), exchange, 0,
                     *STRANGE]
            for why in wrong:
                self.judged("why", tongue, [("swallowed", count)], Broken(0, why))
            self.judged("why", two_roles([(0, 1)]), [("swallowed", count)], Broken(0, Swallowed(exchange, 0)))
        clear = one_frame(words("ab cd", 2))
        self.judged("why", clear, [("swallowed", 1)], Broken(0, Swallowed(exchange, 0)))
        self.judged(None, clear, [("swallowed", 2)], Broken(0, Swallowed(exchange, 2)))

    def test_counts(self):
        tongue = two_roles()
        ring = closed_ring(tongue, (2,))
        for count in (2, 3, 14):
            self.judged(None, tongue, [("counts", (count,))], Broken(0, ring))
        for count in (0, 1):
            self.judged("why", tongue, [("counts", (count,))], Broken(0, ring))
        for why in (Ring(0, ring.steps[:1]), Ring(1, ring.steps), Ring(0, None), Exchange(0, 0, 1, 0, "one", "one"), 2,
                    *STRANGE):
            self.judged("why", tongue, [("counts", (14,))], Broken(0, why))
        self.judged("why", two_roles([(0, 1)]), [("counts", (14,))], Broken(0, ring))
        # Any ring within the counts is right, not the least alone.
        three = all_alike(3)
        steps = tuple((role, (role + 1) % 3, 0, "many", "one") for role in range(3))
        self.judged(None, three, [("counts", (3,))], Broken(0, Ring(0, steps)))
        self.judged("why", three, [("counts", (2,))], Broken(0, Ring(0, steps)))

    def test_whole_numbers(self):
        tongue = all_alike(3, [(0, 1)])
        for wish, many in ((("orders", 0, 4), 3), (("endings", 0, 0), 1), (("safe", (0, 1, 2), 0, 2), 1)):
            self.judged(None, tongue, [wish], Broken(0, many))
            for why in (many + 1, many - 1, -many, 0, str(many), (many,), first_exchange(tongue), *STRANGE):
                self.judged("why", tongue, [wish], Broken(0, why))
        self.judged("why", tongue, [("endings", 0, 0)], Broken(0, True))
        for wish, many in ((("orders", 0, 3), 3), (("endings", 0, 1), 1), (("safe", (0, 1, 2), 0, 1), 1)):
            self.judged("why", tongue, [wish], Broken(0, many))

    def test_lets_what_the_functions_find(self):
        for tongue in tongues():
            for hidden in range(6):
                why = first_swallowed(tongue, hidden)
                if why is not None:
                    self.judged(None, tongue, [("swallowed", hidden)], Broken(0, why))
            for why in same_numbers(tongue):
                self.judged(None, tongue, [("wholly",)], Broken(0, why))
            why = first_doubt(tongue)
            self.judged("why" if why is None else None, tongue, [("wholly",)], Broken(0, why))


if __name__ == "__main__":
    unittest.main()
