"""[6.7], [6.8]: what stays sure when endings are swallowed."""

import copy
import unittest
from itertools import combinations

from looseorder.coincide import first_exchange
from looseorder.errors import BadPattern, BadPlaces, BadThings, NoFrame, NoReading
from looseorder.stillsure import is_left_sure, most_swallowed, sure_roles
from looseorder.swallowing import is_order_alone
from support import (STRANGE, all_alike, are_tuples, four_stocks, great, heard_things, nesting, one_frame, refuses,
                     roles_in, some_tongues, two_roles, walk_patterns, walk_readings, walk_shown, words)


def tongues():
    return some_tongues(30, 67, 3) + [
        two_roles(), two_roles([(0, 1)]), nesting(agreed=1), nesting(rules=[(0, 1), (1, 3)]), four_stocks(),
        four_stocks([(0, 1), (1, 2)]), all_alike(1), all_alike(3, [(0, 1), (1, 2)]), one_frame(words("ab cd", 2)),
        one_frame(words("ab cd ef", 3), [(0, 1)], 2), one_frame(words("ab ab ef", 3))]


def lots_of(pattern):
    nouns = [place for place, entry in enumerate(pattern) if entry[1] is not None]
    return [lot for size in range(len(nouns) + 1) for lot in combinations(nouns, size)]


def is_sure(tongue, frame, pattern, places):
    """All readings of what is left have the same roles."""
    things, number = walk_shown(tongue, frame, pattern)
    told = tuple((t[0], None) if at in places else t for at, t in enumerate(things))
    return len({roles_in(reading) for reading in walk_readings(tongue, frame, told, number)}) == 1


def some_patterns(tongues, most=6):
    for tongue in tongues:
        for frame in range(len(tongue.frames)):
            patterns = walk_patterns(tongue, frame)
            for pattern in patterns[::max(1, len(patterns) // most)]:
                yield tongue, frame, pattern


class SureRolesTest(unittest.TestCase):
    def test_against_all_readings(self):
        none = 0
        for tongue, frame, things, number in heard_things(tongues()):
            rows = [roles_in(reading) for reading in walk_readings(tongue, frame, things, number)]
            roles = [{row[place] for row in rows} for place in range(len(things))]
            told = tuple(list(found)[0] if len(found) == 1 else None for found in roles)
            found = sure_roles(tongue, frame, [thing and list(thing) for thing in things], number)
            self.assertEqual(found, told)
            self.assertTrue(are_tuples(found))
            if None in things:
                self.assertEqual(found[things.index(None)], tongue.frames[frame].clause)
            none += None in found
        self.assertGreater(none, 50)

    def test_plain(self):
        self.assertEqual(sure_roles(nesting(), 0, [(0, ("a",)), None, (0, ("a",))], None), (None, 2, None))
        self.assertEqual(sure_roles(nesting(), 0, [(0, ("a",)), None, (0, ("b",))], None), (0, 2, 1))

    def test_wrong(self):
        tongue = nesting()
        for frame in (4, -1, *STRANGE):
            refuses(self, NoFrame, {"frame": frame}, sure_roles, tongue, frame, None, None)
        refuses(self, BadThings, {"index": 0, "what": "many"}, sure_roles, tongue, 0, [], "x")
        refuses(self, BadThings, {"index": 2, "what": "thing"}, sure_roles, tongue, 0, [None, (0, ("a",)), 5], "x")
        refuses(self, BadThings, {"index": 0, "what": "number"}, sure_roles, tongue, 2, [(0, ("q",))], None)
        refuses(self, NoReading, {}, sure_roles, tongue, 2, [(0, ("q",))], "one")
        refuses(self, NoReading, {}, sure_roles, tongue, 2, [(0, ("a",))], "many")


class LeftSureTest(unittest.TestCase):
    def test_against_all_readings(self):
        kinds = {True: 0, False: 0}
        for tongue, frame, pattern in some_patterns(tongues()):
            for places in lots_of(pattern):
                told = is_sure(tongue, frame, pattern, places)
                self.assertIs(is_left_sure(tongue, frame, [list(entry) for entry in pattern], list(places)), told)
                kinds[told] += 1
        self.assertGreater(min(kinds.values()), 100)

    def test_wrong(self):
        tongue = nesting()
        pattern = [(0, 0, "one"), (2, None, None), (1, 0, "one")]
        for frame in (4, -1, *STRANGE):
            refuses(self, NoFrame, {"frame": frame}, is_left_sure, tongue, frame, None, None)
            refuses(self, NoFrame, {"frame": frame}, most_swallowed, tongue, frame, None)
        for told, index, what in (([], 0, "many"), ([*pattern[:2], None], 2, "row"), (pattern[:2] * 2, 0, "many")):
            refuses(self, BadPattern, {"index": index, "what": what}, is_left_sure, tongue, 0, told, [9])
            refuses(self, BadPattern, {"index": index, "what": what}, most_swallowed, tongue, 0, told)
        refuses(self, BadPattern, {"index": 2, "what": "rule"}, most_swallowed, nesting(rules=[(1, 2)]), 0, pattern)
        for places in (*STRANGE, [1], [0, 1], [2, 0], [0, 0], [3], [-1], [True], [0, 2.0], [[0]], "0", {0: 1},
                       iter([0]), [10 ** 40]):
            refuses(self, BadPlaces, {}, is_left_sure, tongue, 0, pattern, places)

    def test_nothing_changes(self):
        pattern, places = [[0, 0, "one"], [1, 0, "one"]], [0, 1]
        kept = copy.deepcopy((pattern, places))
        is_left_sure(two_roles(), 0, pattern, places)
        most_swallowed(two_roles(), 0, pattern)
        self.assertEqual((pattern, places), kept)


class MostTest(unittest.TestCase):
    def test_against_all_places(self):
        none = 0
        for tongue, frame, pattern in some_patterns(tongues()):
            sure = [places for places in lots_of(pattern) if is_sure(tongue, frame, pattern, places)]
            found = most_swallowed(tongue, frame, pattern)
            self.assertEqual(found, tuple(places for places in sure if len(places) == len(sure[-1])))
            self.assertTrue(are_tuples(found))
            none += found == ()
            for lot in found:
                self.assertTrue(all(part in sure for size in range(len(lot)) for part in combinations(lot, size)))
        self.assertGreater(none, 20)

    def test_clear_tongues(self):
        for tongue, frame, pattern in some_patterns(tongues() + [great().with_rules([(r, r + 1) for r in range(5)])]):
            if first_exchange(tongue) is None:
                found = most_swallowed(tongue, frame, pattern)
                self.assertGreaterEqual(len(found[0]), 1)
                if is_order_alone(tongue):
                    self.assertEqual(found, (tuple(at for at, entry in enumerate(pattern) if entry[1] is not None),))

    def test_five_nouns(self):
        tongue = great()
        pattern = [(0, 0, "one"), (1, 3, "one"), (2, 2, "one"), (3, 3, "many"), (4, 0, "one"), (5, None, None)]
        # The nouns of stock 3 are told by one of their two endings.
        sure = [lot for lot in lots_of(pattern) if is_sure(tongue, 0, pattern, lot)]
        self.assertEqual(most_swallowed(tongue, 0, pattern), tuple(lot for lot in sure if len(lot) == len(sure[-1])))
        self.assertEqual(most_swallowed(tongue, 0, pattern), ((0, 1, 2, 4), (0, 2, 3, 4)))


if __name__ == "__main__":
    unittest.main()
