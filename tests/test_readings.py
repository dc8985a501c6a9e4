"""[2.1], [2.10] to [2.12] shapes and readings of heard rows."""

import unittest
from itertools import product

from looseorder.errors import BadHeard, BadPlaces, NoReading
from looseorder.flat import Sure, Two
from looseorder.frames import Frame
from looseorder.heard import check_heard, depths_of, heard_of, roles_heard, swallow
from looseorder.readings import count_readings, readings_of, shapes_of, two_readings, why_sure
from looseorder.sayings import Saying
from looseorder.speaking import plain_saying
from looseorder.stocks import Stock
from looseorder.tongues import Tongue
from support import (NUMBERS, STRANGE, VERB, are_tuples, grouped, matching, nesting, refuses, some_tongues, tiny,
                     two_roles)


def walk_shapes(tongue, heard):
    """All shapes, from all rows of depths."""
    verbs = [piece for piece in heard if piece[0] == "verb"]
    if not verbs:
        return ()
    return tuple(row for row in product(range(len(verbs)), repeat=len(heard)) if is_shape(tongue, heard, row))


def is_shape(tongue, heard, row):
    for depth in range(max(row) + 1):
        deeper = [place for place, told in enumerate(row) if told >= depth]
        own = [place for place, told in enumerate(row) if told == depth]
        verbs = [place for place in own if heard[place][0] == "verb"]
        if deeper != list(range(deeper[0], deeper[-1] + 1)) or len(verbs) != 1:
            return False
        frame = tongue.frames[heard[verbs[0]][1]]
        if (frame.clause is None) != (depth == max(row)) or len(own) != len(frame.nouns) + 1:
            return False
        if tongue.verbs != "free" and verbs[0] != deeper[0 if tongue.verbs == "first" else -1]:
            return False
    return True


def sample():
    """Tongues of all kinds with all their heard rows of at most seven pieces, and the sayings behind them."""
    for verbs in ("first", "last", "free"):
        for tongue in (tiny(verbs), tiny(verbs, 0, [(1, 0)]), tiny(verbs, None, [(0, 1), (1, 2)])):
            yield tongue, grouped(tongue, 5 if verbs == "free" else 6)
    for tongue in some_tongues(14, 29, 3):
        yield tongue, grouped(tongue, 4)


SAMPLE = []


def samples():
    if not SAMPLE:
        SAMPLE.extend(sample())
    return SAMPLE


def n(ending=None, stem="n"):
    return ("noun", stem, 0, ending)


def v(frame, number=None):
    return ("verb", frame, number)


class ShapesTest(unittest.TestCase):
    def test_one_clause(self):
        self.assertEqual(shapes_of(tiny("last"), [n(), v(1)]), ((0, 0),))
        self.assertEqual(shapes_of(tiny("last"), [v(1), n()]), ())
        self.assertEqual(shapes_of(tiny("first"), [v(1), n()]), ((0, 0),))
        self.assertEqual(shapes_of(tiny("first"), [n(), v(1)]), ())
        self.assertEqual(shapes_of(tiny("free"), [n(), v(2, "one"), n()]), ((0, 0, 0),))

    def test_wrong_counts(self):
        for heard in ([n()], [v(1)], [n(), n(), v(1)], [n(), v(0)], [n(), v(1), n(), v(1)], [n(), n(), v(0)],
                      [n(), v(0), n(), v(0)]):
            for verbs in ("first", "last", "free"):
                self.assertEqual(shapes_of(tiny(verbs), heard), ())

    def test_clauses_in_clauses(self):
        self.assertEqual(shapes_of(tiny("last"), [n(), n(), v(1), v(0)]), ((0, 1, 1, 0),))
        self.assertEqual(shapes_of(tiny("last"), [n(), v(1), n(), v(0)]), ((1, 1, 0, 0),))
        self.assertEqual(shapes_of(tiny("first"), [v(0), v(0), v(1), n(), n(), n()]), ((0, 1, 2, 2, 1, 0),))
        self.assertEqual(shapes_of(tiny("first"), [v(0), n(), v(1), n()]), ((0, 0, 1, 1),))

    def test_several_where_verbs_are_free(self):
        self.assertEqual(shapes_of(tiny("free"), [n(), v(1), n(), v(0)]), ((0, 1, 1, 0), (1, 1, 0, 0)))
        self.assertEqual(shapes_of(tiny("free"), [n(), v(0), v(1), n()]), ((0, 0, 1, 1),))
        self.assertEqual(shapes_of(tiny("free"), [v(0), n(), v(1), n()]), ((0, 0, 1, 1), (0, 1, 1, 0)))
        found = shapes_of(tiny("free"), [n(), v(0), n(), v(0), n(), v(1)])
        self.assertEqual(found, tuple(sorted(found)))
        self.assertTrue(are_tuples(found))

    def test_endings_and_rules_do_not_matter(self):
        for tongue in (tiny("free"), tiny("free", None, [(0, 1), (1, 2)])):
            heard = [n(("zzz",)), v(1), n(("q",)), v(0)]
            self.assertEqual(shapes_of(tongue, heard), ((0, 1, 1, 0), (1, 1, 0, 0)))

    def test_against_all_rows_of_depths(self):
        pieces = (n(), v(0), v(1), v(2, "one"))
        for verbs in ("first", "last", "free"):
            tongue = tiny(verbs)
            for many in range(1, 6):
                for heard in product(pieces, repeat=many):
                    self.assertEqual(shapes_of(tongue, heard), walk_shapes(tongue, heard))

    def test_longer_rows(self):
        for heard in ([n(), v(0), n(), v(0), n(), v(1)], [n(), n(), v(0), v(0), n(), v(1)],
                      [n(), v(0), n(), v(1), n(), v(0)], [n(), v(0), n(), n(), v(2, "one"), n(), v(0)],
                      [v(0), n(), v(0), n(), n(), v(2, "one"), n()]):
            for verbs in ("first", "last", "free"):
                self.assertEqual(shapes_of(tiny(verbs), heard), walk_shapes(tiny(verbs), heard))

    def test_at_most_one_if_verbs_are_not_free(self):
        for tongue, rows in samples():
            for heard in rows:
                found = shapes_of(tongue, heard)
                self.assertGreaterEqual(len(found), 1)
                if tongue.verbs != "free":
                    self.assertEqual(len(found), 1)

    def test_a_row_of_fourteen(self):
        heard = [n(), v(0)] * 6 + [n(), v(1)]
        self.assertEqual(shapes_of(tiny("last"), [n()] * 7 + [v(1)] + [v(0)] * 6),
                         ((0, 1, 2, 3, 4, 5, 6, 6, 5, 4, 3, 2, 1, 0),))
        self.assertEqual(shapes_of(tiny("free"), heard), ((0, 0, 1, 1, 2, 2, 3, 3, 4, 4, 5, 5, 6, 6),))


class ReadingsTest(unittest.TestCase):
    def test_one_clause(self):
        tongue = two_roles()
        heard = [["noun", "x", 0, ["a"]], ["noun", "y", 0, ["a"]], ["verb", 0, None]]
        found = list(readings_of(tongue, heard))
        self.assertEqual(found, [Saying(tongue, 0, [("noun", "x", 0, one, "one"), ("noun", "y", 0, other, "one"), VERB])
                                 for one, other in ((0, 1), (1, 0))])

    def test_two_shapes(self):
        tongue = tiny("free")
        heard = [n(("b",), "x"), v(1), n(("a",), "y"), v(0)]
        inner = Saying(tongue, 1, [VERB, ("noun", "y", 0, 0, "one")])
        other = Saying(tongue, 1, [("noun", "x", 0, 0, "many"), VERB])
        self.assertEqual(list(readings_of(tongue, heard)), [
            Saying(tongue, 0, [("noun", "x", 0, 0, "many"), ("clause", 1, inner), VERB]),
            Saying(tongue, 0, [("clause", 1, other), ("noun", "y", 0, 0, "one"), VERB])])

    def test_rules_hold_in_each_clause(self):
        tongue = tiny("free", None, [(1, 0)])
        heard = [n(("b",), "x"), v(1), n(("a",), "y"), v(0)]
        self.assertEqual([depths_of(reading) for reading in readings_of(tongue, heard)], [(1, 1, 0, 0)])
        tongue = tiny("last", None, [(0, 1), (1, 2)])
        heard = [n(stem="x"), n(stem="y"), n(stem="z"), v(2, "one"), v(0)]
        self.assertEqual({roles_heard(reading) for reading in readings_of(tongue, heard)}, {(0, 0, 2, None, None)})

    def test_the_heard_number_of_each_clause(self):
        tongue = tiny("last", 0)
        for number in NUMBERS:
            heard = [n(stem="x"), n(stem="y"), v(1), v(0, number)]
            self.assertEqual([reading.said[0][4] for reading in readings_of(tongue, heard)], [number] * 2)

    def test_none(self):
        for heard in ([n(("q",)), v(1)], [n()], [v(1)], [n(("c",)), v(1)], [n(), n(), v(1)],
                      [n(("b",)), n(("b",)), v(2, "one")]):
            self.assertEqual(list(readings_of(tiny("last"), heard)), [])
            self.assertEqual(count_readings(tiny("last"), heard), 0)
            self.assertIsNone(two_readings(tiny("last"), heard))

    def test_all_sayings_and_no_others_in_their_order(self):
        for tongue, rows in samples():
            for heard, sayings in rows.items():
                self.assertEqual(list(readings_of(tongue, heard)), sayings)
                self.assertEqual(count_readings(tongue, heard), len(sayings))

    def test_with_swallowed_endings(self):
        for tongue, rows in samples():
            for heard in list(rows)[::max(1, len(rows) // 8)]:
                nouns = [place for place, piece in enumerate(heard) if piece[0] == "noun"]
                for places in ([nouns[0]], nouns[-2:], nouns):
                    told = swallow(heard, places)
                    expected = matching(rows, told)
                    self.assertEqual(list(readings_of(tongue, told)), expected)
                    self.assertEqual(count_readings(tongue, told), len(expected))

    def test_readings_of_what_is_heard_of_a_saying(self):
        for verbs in ("first", "last", "free"):
            for frame in range(4):
                saying = plain_saying(nesting(verbs, 1), frame)
                self.assertIn(saying, list(readings_of(saying.tongue, heard_of(saying))))

    def test_a_row_of_fourteen_and_of_fifteen(self):
        heard = [n()] * 7 + [v(1)] + [v(0)] * 6
        self.assertEqual(count_readings(tiny("last"), heard), 2 ** 7)
        found = list(readings_of(tiny("last"), heard))
        self.assertEqual(len(found), 2 ** 7)
        self.assertEqual([item[4] for item in found[1].noun_items()], ["one"] * 6 + ["many"])
        self.assertEqual([item[4] for item in found[64].noun_items()], ["many"] + ["one"] * 6)
        refuses(self, BadHeard, {"index": 0, "what": "many"}, count_readings, tiny("last"), [n(), *heard])

    def test_counts_of_great_numbers(self):
        stock = Stock("n", [(role, ("a",), ("b",)) for role in range(5)])
        tongue = Tongue(list("abcdef"), [stock], [Frame("f", (0, 1, 2, 3, 4), 5), Frame("g", (0,))])
        heard = [n(stem="x")] * 5 + [n(stem="x")] * 5 + [n(stem="x"), v(1), v(0), v(0)]
        self.assertEqual(count_readings(tongue, heard), (120 * 32) ** 2 * 2)
        two = two_readings(tongue, heard)
        self.assertEqual(roles_heard(two.one)[5:10], (0, 1, 2, 3, 4))
        self.assertEqual(roles_heard(two.other)[:10], (0, 1, 2, 3, 4, 0, 1, 2, 4, 3))
        self.assertEqual(roles_heard(why_sure(tongue, heard, 0).other)[:10], (1, 0, 2, 3, 4, 0, 1, 2, 3, 4))
        self.assertEqual(why_sure(tongue, heard, 10), Sure(0))

    def test_what_is_passed_in_stays(self):
        heard = [["noun", "x", 0, ["a"]], ["noun", "y", 0, None], ["verb", 0, None]]
        for call in (shapes_of, count_readings, two_readings, lambda *args: list(readings_of(*args))):
            call(two_roles(), heard)
        why_sure(two_roles(), heard, 0)
        self.assertEqual(heard, [["noun", "x", 0, ["a"]], ["noun", "y", 0, None], ["verb", 0, None]])


class TwoTest(unittest.TestCase):
    def check(self, tongue, heard, sayings):
        def told(saying):
            return depths_of(saying), roles_heard(saying)
        unlike = [other for other in sayings if told(other) != told(sayings[0])]
        expected = Two(sayings[0], unlike[0]) if unlike else None
        self.assertEqual(two_readings(tongue, heard), expected)
        for place, piece in enumerate(heard):
            if piece[0] == "verb":
                refuses(self, BadPlaces, {}, why_sure, tongue, heard, place)
                continue
            role = roles_heard(sayings[0])[place]
            other = [saying for saying in sayings if roles_heard(saying)[place] != role]
            self.assertEqual(why_sure(tongue, heard, place), Two(sayings[0], other[0]) if other else Sure(role))

    def test_against_all_readings(self):
        for tongue, rows in samples():
            for heard, sayings in rows.items():
                self.check(tongue, heard, sayings)

    def test_with_swallowed_endings(self):
        for tongue, rows in samples():
            for heard in list(rows)[::max(1, len(rows) // 8)]:
                nouns = [place for place, piece in enumerate(heard) if piece[0] == "noun"]
                for places in (nouns[:2], nouns):
                    told = swallow(heard, places)
                    self.check(tongue, told, matching(rows, told))

    def test_other_depths_with_the_same_roles(self):
        tongue = tiny("free")
        heard = [n(("b",), "x"), v(1), n(("a",), "y"), v(0)]
        two = two_readings(tongue, heard)
        self.assertEqual((depths_of(two.one), depths_of(two.other)), ((0, 1, 1, 0), (1, 1, 0, 0)))
        self.assertEqual(roles_heard(two.one), roles_heard(two.other))
        self.assertEqual(why_sure(tongue, heard, 0), Sure(0))

    def test_other_numbers_alone(self):
        self.assertIsNone(two_readings(tiny("last"), [n(), v(1)]))
        self.assertEqual(why_sure(tiny("last"), [n(), v(1)], 0), Sure(0))

    def test_a_later_shape_with_another_role(self):
        stock = Stock("n", [(0, ("a",), ("a",)), (2, ("a",), ("a",))])
        tongue = Tongue(["x", "y", "z"], [stock], [Frame("say", (0,), 1), Frame("go", (2,))], (), "free")
        heard = [n(("a",), "p"), v(1), n(("a",), "q"), v(0)]
        two = why_sure(tongue, heard, 0)
        self.assertEqual((roles_heard(two.one), roles_heard(two.other)), ((0, None, 2, None), (2, None, 0, None)))

    def test_places(self):
        heard = [n(("a",), "x"), n(("a",), "y"), v(0)]
        for place in (*STRANGE, -1, 2, 3, [0], "0", 10 ** 30):
            refuses(self, BadPlaces, {}, why_sure, two_roles(), heard, place)

    def test_which_is_asked_first(self):
        heard = [n(("q",), "x"), n(("q",), "y"), v(0)]
        refuses(self, NoReading, {}, why_sure, two_roles(), heard, 0)
        refuses(self, NoReading, {}, why_sure, two_roles(), [n()], 0)
        refuses(self, BadPlaces, {}, why_sure, two_roles(), heard, 2)
        refuses(self, BadHeard, {"index": 2, "what": "number"}, why_sure, two_roles(), [*heard[:2], v(0, "one")], 2)

    def test_errors_of_all(self):
        for call in (shapes_of, count_readings, two_readings, lambda *args: list(readings_of(*args)),
                     lambda *args: why_sure(*args, None)):
            for index, what, heard in ((0, "many", []), (0, "many", None), (0, "many", [n()] * 15),
                                       (1, "piece", [n(), 5]),
                                       (0, "stem", [n(stem="")]), (0, "stock", [("noun", "a", 1, None)]),
                                       (0, "ending", [n(())]), (0, "frame", [v(2)]), (1, "number", [n(), v(1, "one")])):
                refuses(self, BadHeard, {"index": index, "what": what}, call, two_roles(), heard)
            refuses(self, BadHeard, {"index": 1, "what": "double"}, call, nesting(),
                    [n(), ("noun", "n", 1, None)])


class SumTest(unittest.TestCase):
    def test_each_saying_is_a_reading_of_just_what_is_heard(self):
        for tongue, rows in samples():
            self.assertEqual(sum(count_readings(tongue, heard) for heard in rows),
                             sum(len(sayings) for sayings in rows.values()))
            for heard in rows:
                self.assertEqual(check_heard(tongue, heard), heard)


if __name__ == "__main__":
    unittest.main()
