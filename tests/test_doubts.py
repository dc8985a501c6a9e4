"""[5.1] to [5.4]: doubtful roles, tongues that are wholly clear, numbers that are told."""

import unittest

from looseorder.coincide import Exchange, first_exchange
from looseorder.doubts import (SameNumber, doubtful_roles, first_doubt, same_fault, same_numbers, same_patterns,
                               told_numbers)
from looseorder.endings import with_fewest
from looseorder.errors import BadSame, BadThings, NoFrame, NoReading
from looseorder.patterns import check_pattern
from support import (STRANGE, all_alike, are_tuples, four_stocks, great, heard_things, nesting, one_frame, refuses,
                     roles_in, some_tongues, table_of, two_roles, walk_alike, walk_readings, walk_shown, words)


def tongues():
    return some_tongues(60, 51, 3) + [
        two_roles(), two_roles([(0, 1)]), nesting(agreed=1), nesting(rules=[(0, 1), (1, 3)]), four_stocks(),
        four_stocks(agreed=2), all_alike(1), all_alike(1, (), 0), all_alike(3, [(0, 1), (1, 2)], 1),
        one_frame(words("aa bc", 2)), one_frame(words("aa bc", 2), (), 0), one_frame(words("aa bb", 2), (), 0),
        one_frame(words("ab cd", 2))]


def walk_doubtful(tongue, frame):
    """The noun roles with the stocks that show them alike in both numbers."""
    return [(role, stock) for role in tongue.frames[frame].nouns for stock in range(len(tongue.stocks))
            if (role, "one") in table_of(tongue, stock)
            and table_of(tongue, stock)[role, "one"] == table_of(tongue, stock)[role, "many"]]


def is_wholly_clear(tongue):
    return all(len(lot) == 1 for frame in range(len(tongue.frames)) for lot in walk_alike(tongue, frame))


def fields(same):
    return same.frame, same.role, same.stock


class DoubtfulTest(unittest.TestCase):
    def test_against_all_stocks(self):
        for tongue in tongues() + [great()]:
            for frame in range(len(tongue.frames)):
                found = doubtful_roles(tongue, frame)
                self.assertEqual(found, tuple(sorted({role for role, _ in walk_doubtful(tongue, frame)})))
                self.assertTrue(are_tuples(found))

    def test_the_agreed_role_too(self):
        self.assertEqual(doubtful_roles(all_alike(2, (), 0), 0), (0, 1))
        self.assertEqual(doubtful_roles(one_frame(words("aa bc", 2), (), 0), 0), (0,))

    def test_frame(self):
        for frame in (4, -1, 10 ** 40, *STRANGE):
            refuses(self, NoFrame, {"frame": frame}, doubtful_roles, nesting(), frame)


class FirstDoubtTest(unittest.TestCase):
    def test_none_exactly_if_wholly_clear(self):
        kinds = set()
        for tongue in tongues():
            found = first_doubt(tongue)
            self.assertEqual(found is None, is_wholly_clear(tongue))
            told = [f for f in range(len(tongue.frames)) for role, _ in walk_doubtful(tongue, f)
                    if role != tongue.frames[f].agreed]
            self.assertEqual(found is None, first_exchange(tongue) is None and told == [])
            kinds.add(type(found))
        self.assertEqual(kinds, {type(None), Exchange, SameNumber})

    def test_which(self):
        for tongue in tongues() + [great()]:
            exchange, same = first_exchange(tongue), same_numbers(tongue)
            wanted = exchange if exchange is not None else same[0] if same else None
            self.assertEqual(first_doubt(tongue), wanted)

    def test_tongues_of_the_fewest_endings_for_numbers(self):
        for tongue in tongues():
            self.assertIsNone(first_doubt(with_fewest(tongue, numbers=True)))


class SameNumbersTest(unittest.TestCase):
    def test_all_in_order(self):
        for tongue in tongues() + [great()]:
            rows = [(frame, role, stock) for frame in range(len(tongue.frames))
                    for role, stock in walk_doubtful(tongue, frame) if role != tongue.frames[frame].agreed]
            found = same_numbers(tongue)
            self.assertIs(type(found), tuple)
            self.assertTrue(all(type(same) is SameNumber for same in found))
            self.assertEqual([fields(same) for same in found], sorted(rows))

    def test_whether_clear_or_not(self):
        self.assertEqual([fields(same) for same in same_numbers(all_alike(2, (), 0))], [(0, 1, 0)])
        self.assertEqual([fields(same) for same in same_numbers(all_alike(2, [(0, 1)], 0))], [(0, 1, 0)])
        self.assertEqual(same_numbers(one_frame(words("aa", 1), (), 0)), ())


class SameFaultTest(unittest.TestCase):
    def fault(self, what, *told, tongue=None):
        told_tongue = tongue or four_stocks().with_stock(0, words("aa bc dd ef", 4))
        same = SameNumber(*told)
        self.assertEqual(same_fault(told_tongue, same), what, told)
        if what is not None:
            refuses(self, BadSame, {"what": what}, same_patterns, told_tongue, same)

    def test_words(self):
        self.fault(None, 0, 2, 0)
        self.fault(None, 0, 2, 1)
        for frame in (4, -1, 10 ** 40, [0], *STRANGE):
            self.fault("frame", frame, 2, 0)
        for role in (0, 3, -1, 4, 10 ** 40, [2], *STRANGE):
            self.fault("role", 0, role, 0)
        for stock in (2, 4, -1, 10 ** 40, [0], *STRANGE):
            self.fault("stock", 0, 2, stock)
        self.fault("shown", 0, 2, 3)
        self.fault("shown", 0, 1, 0)
        # The clause role is no noun role; no agreed role is like any of them.
        self.fault("role", 3, 0, 0)
        self.fault(None, 0, 0, 0, tongue=four_stocks(agreed=None).with_stock(0, words("aa bc dd ef", 4)))

    def test_all(self):
        for tongue in tongues()[::3]:
            right = {fields(same) for same in same_numbers(tongue)}
            for frame in range(len(tongue.frames)):
                for role in range(len(tongue.roles)):
                    for stock in range(len(tongue.stocks)):
                        told = (frame, role, stock)
                        self.assertEqual(same_fault(tongue, SameNumber(*told)) is None, told in right)

    def test_two_faults(self):
        self.fault("frame", 4, 9, 9)
        self.fault("role", 0, 0, 9)
        self.fault("role", 0, 0, 3)
        self.fault("stock", 0, 2, 2)


class SamePatternsTest(unittest.TestCase):
    def test_all(self):
        for tongue in tongues() + [great()]:
            for same in same_numbers(tongue):
                found = same_patterns(tongue, same)
                self.assertTrue(are_tuples(found) and len(found) == 2)
                one, many = found
                self.assertEqual([check_pattern(tongue, same.frame, pattern) for pattern in found], [one, many])
                self.assertEqual(walk_shown(tongue, same.frame, one), walk_shown(tongue, same.frame, many))
                at = roles_in(one).index(same.role)
                self.assertEqual((one[at], many[at]), ((same.role, same.stock, "one"), (same.role, same.stock, "many")))
                self.assertEqual((one[:at], one[at + 1:]), (many[:at], many[at + 1:]))

    def test_nothing_changes(self):
        tongue, same = four_stocks(), SameNumber(0, 2, 1)
        same_patterns(tongue, same)
        self.assertEqual((tongue, same), (four_stocks(), SameNumber(0, 2, 1)))


class ToldNumbersTest(unittest.TestCase):
    def test_against_all_readings(self):
        none = 0
        for tongue, frame, things, number in heard_things(tongues()):
            readings = walk_readings(tongue, frame, things, number)
            numbers = [{reading[place][2] for reading in readings} for place in range(len(things))]
            told = tuple(list(found)[0] if len(found) == 1 else None for found in numbers)
            found = told_numbers(tongue, frame, list(things), number)
            self.assertEqual(found, told)
            none += None in found
        self.assertGreater(none, 50)

    def test_wholly_clear_tongues_with_one_swallowed(self):
        wholly = [tongue for tongue in tongues() if is_wholly_clear(tongue)]
        wholly += [with_fewest(tongue, numbers=True) for tongue in tongues()[:20]]
        for tongue, frame, things, number in heard_things(wholly):
            hidden = [place for place, thing in enumerate(things) if thing is not None and thing[1] is None]
            if len(hidden) <= 1:
                found = told_numbers(tongue, frame, things, number)
                for place, thing in enumerate(things):
                    self.assertEqual(found[place] is None, thing is None or (place in hidden and found[place] is None))

    def test_plain(self):
        tongue = nesting(rules=[(0, 1)])
        self.assertEqual(told_numbers(tongue, 0, [(0, ["a"]), None, (1, ("b",))], None), ("one", None, "many"))
        self.assertEqual(told_numbers(tongue, 0, [(0, ["a"]), None, (1, None)], None), ("one", None, None))
        agreed = all_alike(2, (), 0)
        self.assertEqual(told_numbers(agreed, 0, [(0, ("a",)), (0, ("a",))], "many"), (None, None))
        self.assertEqual(told_numbers(all_alike(2, [(0, 1)], 0), 0, [(0, ("a",)), (0, ("a",))], "many"), ("many", None))

    def test_wrong(self):
        tongue = nesting()
        for frame in (4, -1, *STRANGE):
            refuses(self, NoFrame, {"frame": frame}, told_numbers, tongue, frame, None, None)
        refuses(self, BadThings, {"index": 0, "what": "many"}, told_numbers, tongue, 0, [], "x")
        refuses(self, BadThings, {"index": 1, "what": "thing"}, told_numbers, tongue, 0, [None, 5, None], "x")
        refuses(self, BadThings, {"index": 0, "what": "number"}, told_numbers, tongue, 2, [(0, ("q",))], None)
        refuses(self, NoReading, {}, told_numbers, tongue, 2, [(0, ("q",))], "one")
        refuses(self, NoReading, {}, told_numbers, tongue, 2, [(0, ("a",))], "many")


if __name__ == "__main__":
    unittest.main()
