"""[9.7], [9.8]: the ages of a tongue that changes, and what can be said in them."""

import unittest
from inspect import isgeneratorfunction
from random import Random

from looseorder.ages import Ages, Unclear, ages_of, first_unclear_age, sure_ages, unclear_ages
from looseorder.changes import make_changes
from looseorder.coincide import exchange_fault
from looseorder.errors import BadAge, BadChange, BadRemark
from support import (STRANGE, Sayable, all_alike, are_tuples, great, nesting, one_frame, refuses, roles_in,
                     some_tongues, tiny, two_roles, walk_is_clear, walk_patterns, walk_readings, walk_shown, words)
from test_changes import listed, some_changes, walk_changes


def is_clear(tongue):
    return all(walk_is_clear(tongue, frame) for frame in range(len(tongue.frames)))


def some_ages(count, seed, most=6, forms=("rule", "strike", "ending", "wear", "article")):
    """Ages of tongues of many kinds, and of some that a change soon makes clear or unclear."""
    source = Random(seed)
    near = [two_roles(), two_roles([(0, 1)]), all_alike(2), all_alike(3, [(0, 1), (1, 2)]), tiny("last", 0),
            one_frame(words("ab cd", 2)), one_frame(words("ab cd", 2), (), 0), one_frame(words("ac bc", 2), [(1, 0)])]
    found = []
    for tongue in some_tongues(count // 2, seed, 3) + near * (count // 16):
        told = forms if len(tongue.roles) > 1 else ("wear",)
        found.append(Ages(tongue, some_changes(tongue, source, source.randint(0, most), told)))
    return found


class AgesTest(unittest.TestCase):
    def test_the_tongues(self):
        for ages in some_ages(40, 171):
            changes = ages.changes
            self.assertEqual(len(ages), len(changes) + 1)
            for age in range(len(ages)):
                self.assertEqual(ages.tongue_at(age), walk_changes(ages.tongue, changes[:age]))
                self.assertEqual(ages.tongue_at(age), make_changes(ages.tongue, changes[:age]))
            self.assertEqual(list(ages.walk_ages()), [(age, ages.tongue_at(age)) for age in range(len(ages))])
            self.assertTrue(all(isinstance(row, tuple) for row in ages.walk_ages()))

    def test_kept_and_compared(self):
        changes = [["rule", 0, 1], ["wear", [["a", "b"]]]]
        ages = Ages(two_roles(), changes)
        told = (("rule", 0, 1), ("wear", (("a", "b"),)))
        self.assertEqual((ages.tongue, ages.changes), (two_roles(), told))
        self.assertTrue(are_tuples(ages.changes))
        changes[1][1].append(["b", "a"])
        changes.pop()
        self.assertEqual((ages.changes, len(ages)), (told, 3))
        self.assertEqual(ages, Ages(two_roles(), told))
        self.assertFalse(ages != Ages(two_roles(), told))
        # Other changes are unlike, also if they lead to the same tongues.
        others = (Ages(two_roles(), told[:1]), Ages(two_roles([(0, 1)]), told),
                  Ages(two_roles(), [told[0], ("wear", ())]),
                  Ages(two_roles(), [("rule", 0, 1), ("wear", (("a", "b"), ("b", "b")))]), None, told, Sayable())
        for other in others:
            self.assertNotEqual(ages, other)
            self.assertFalse(ages == other)
        self.assertTrue(isgeneratorfunction(Ages.walk_ages))

    def test_no_change(self):
        ages = Ages(two_roles(), ())
        self.assertEqual((len(ages), ages.changes, list(ages.walk_ages())), (1, (), [(0, two_roles())]))

    def test_sixty_changes(self):
        source = Random(172)
        tongue = nesting()
        changes = some_changes(tongue, source, 60)
        ages = Ages(tongue, changes)
        self.assertEqual(len(ages), 61)
        self.assertEqual(ages.tongue_at(60), walk_changes(tongue, changes))

    def test_wrong(self):
        refuses(self, BadChange, {"index": 0, "what": "many"}, Ages, nesting(), [("wear", ())] * 61)
        refuses(self, BadChange, {"index": 1, "what": "role"}, Ages, nesting(), [("rule", 0, 1), ("rule", 0, 4)])
        for changes in STRANGE:
            refuses(self, BadChange, {"index": 0, "what": "many"}, Ages, nesting(), changes)
        ages = Ages(nesting(), [("rule", 0, 1), ("strike", 0, 1)])
        for age in (-1, 3, 10 ** 40, "0", [0], *STRANGE):
            refuses(self, BadAge, {}, ages.tongue_at, age)
        self.assertEqual(ages.tongue_at(2), nesting())


class UnclearTest(unittest.TestCase):
    def test_against_a_walk(self):
        kinds = set()
        for ages in some_ages(160, 173):
            unclear = tuple(age for age, tongue in ages.walk_ages() if not is_clear(tongue))
            self.assertEqual(unclear_ages(ages), unclear)
            self.assertIsInstance(unclear_ages(ages), tuple)
            found = first_unclear_age(ages)
            kinds.add((len(unclear) > 0, len(unclear) == len(ages), unclear[:1] == (0,)))
            if not unclear:
                self.assertIsNone(found)
            else:
                self.assertEqual((type(found), found.age), (Unclear, unclear[0]))
                self.assertIsNone(exchange_fault(ages.tongue_at(found.age), found.exchange))
        self.assertTrue(kinds >= {(False, False, False), (True, True, True), (True, False, True), (True, False, False)})

    def test_wears_alone(self):
        met = set()
        for ages in some_ages(96, 174, 5, ("wear",)):
            clear = unclear_ages(ages) == ()
            self.assertEqual(clear, is_clear(ages.tongue_at(len(ages) - 1)))
            met.add((clear, len(ages) > 2))
        self.assertTrue(met >= {(True, True), (False, True)})

    def test_result(self):
        made = Unclear(3, [1])
        self.assertEqual((made.age, made.exchange), (3, [1]))
        self.assertEqual(made, Unclear(3, [1]))
        self.assertNotEqual(made, Unclear(2, [1]))


def some_remarks(ages, source, many):
    """Remarks shown at some ages, some with an ending swallowed."""
    found = []
    while len(found) < many:
        tongue = ages.tongue_at(source.randrange(len(ages)))
        frame = source.randrange(len(tongue.frames))
        things, number = walk_shown(tongue, frame, source.choice(walk_patterns(tongue, frame)))
        if source.random() < 0.3:
            things = [thing and (thing[0], None if source.random() < 0.5 else thing[1]) for thing in things]
        found.append((frame, tuple(things), number))
    return tuple(found)


class RemarkTest(unittest.TestCase):
    def test_against_a_walk(self):
        source = Random(175)
        met = set()
        for ages in some_ages(160, 176):
            remarks = some_remarks(ages, source, source.choice([1, 1, 2, 3, 6]))
            said, sure = [], []
            for age, tongue in ages.walk_ages():
                rows = [{roles_in(pattern) for pattern in walk_readings(tongue, *remark)} for remark in remarks]
                said += [age] if all(rows) else []
                sure += [age] if all(len(lot) == 1 for lot in rows) else []
                if is_clear(tongue):
                    for lot, remark in zip(rows, remarks):
                        if sum(thing is not None and thing[1] is None for thing in remark[1]) < 2:
                            self.assertLessEqual(len(lot), 1)
            self.assertEqual(ages_of(ages, listed(remarks)), tuple(said))
            self.assertEqual(sure_ages(ages, listed(remarks)), tuple(sure))
            self.assertEqual((ages_of(ages, remarks), sure_ages(ages, remarks)), (tuple(said), tuple(sure)))
            self.assertTrue(are_tuples((ages_of(ages, remarks), sure_ages(ages, remarks))))
            met.add((len(said) > 0, len(sure) > 0, len(sure) < len(said) < len(ages)))
        self.assertTrue(met >= {(True, True, False), (True, True, True), (False, False, False), (True, False, True)})

    def test_which(self):
        tongue = two_roles()
        ages = Ages(tongue, [("rule", 0, 1), ("ending", 0, 0, "one", ("q",)), ("strike", 0, 1)])
        see = (0, [(0, ("a",)), (0, ("a",))], None)
        self.assertEqual((ages_of(ages, [see]), sure_ages(ages, [see])), ((0, 1), (1,)))
        later = (0, [(0, ("q",)), (0, ("a",))], None)
        self.assertEqual((ages_of(ages, [later]), sure_ages(ages, [later])), ((2, 3), (2, 3)))
        self.assertEqual((ages_of(ages, [see, later]), sure_ages(ages, [see, later])), ((), ()))
        go = (1, [(0, ("a",))], None)
        self.assertEqual((ages_of(ages, [see, go] * 3), sure_ages(ages, [go, see])), ((0, 1), (1,)))

    def test_errors(self):
        ages = Ages(nesting(agreed=0), [("rule", 0, 1)])
        right = (2, [(0, ("a",))], "one")
        for call in (ages_of, sure_ages):
            for remarks in ([], (), [right] * 7, [None] * 7, *STRANGE):
                refuses(self, BadRemark, {"index": 0}, call, ages, remarks)
            wrong = [(), right[:2], (*right, 1), (4, *right[1:]), (-1, *right[1:]), (True, *right[1:]), (2, [], "one"),
                     (2, [(0, ("a",))] * 2, "one"), (2, [(2, ("a",))], "one"), (2, [(0, ())], "one"),
                     (2, [None], "one"), (2, [(0, ("a",))], None), (1, [(0, ("a",))] * 3, "one"), "abc", *STRANGE]
            for remark in wrong:
                refuses(self, BadRemark, {"index": 0}, call, ages, [remark])
                refuses(self, BadRemark, {"index": 1}, call, ages, [right, remark, None])
                refuses(self, BadRemark, {"index": 5}, call, ages, [right] * 5 + [remark])
            self.assertEqual(call(ages, [right] * 6), (0, 1))

    def test_endings_that_no_stock_has(self):
        ages = Ages(two_roles(), [("wear", [("a", "zz")])])
        self.assertEqual(ages_of(ages, [(1, [(0, ("zz",))], None)]), (1,))
        self.assertEqual(ages_of(ages, [(1, [(0, ("zzz",))], None)]), ())

    def test_nothing_changes(self):
        ages = Ages(two_roles(), [("rule", 0, 1)])
        remarks = [[0, [[0, ["a"]], [0, None]], None]]
        ages_of(ages, remarks)
        sure_ages(ages, remarks)
        unclear_ages(ages)
        first_unclear_age(ages)
        self.assertEqual(remarks, [[0, [[0, ["a"]], [0, None]], None]])
        self.assertEqual(ages, Ages(two_roles(), [("rule", 0, 1)]))

    def test_great(self):
        ages = Ages(great(), [("wear", [("a", "b")]), ("rule", 1, 2)])
        self.assertEqual(unclear_ages(ages), (0, 1, 2))
        self.assertEqual(first_unclear_age(ages).age, 0)
        self.assertEqual(unclear_ages(Ages(all_alike(1), [("wear", ())])), ())


if __name__ == "__main__":
    unittest.main()
