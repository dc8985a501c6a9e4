"""[8.1], [8.5] to [8.7]: habits, and what is taken by them."""

import unittest
from itertools import permutations, product

from looseorder.errors import (BadBlocks, BadHabit, BadHeard, BadThings, FreeClauses, NoFrame, Nothing)
from looseorder.habits import (check_habit, habit_sorted, is_row_ahead, is_understood, taken, taken_pattern)
from looseorder.heard import heard_of, swallow
from looseorder.safety import safe_orders
from looseorder.sayings import Saying
from looseorder.speaking import has_same_roles, pattern_of, plain_saying
from support import (STRANGE, VERB, all_alike, are_tuples, great, grouped, heard_things, matching, nesting, numbers_in,
                     rank_by, refuses, roles_in, some_tongues, tiny, two_roles, walk_shown, walk_taken)


def habits_of(tongue):
    return list(permutations(range(len(tongue.roles))))


def chain(saying):
    return [saying] + (chain(saying.inner) if saying.inner is not None else [])


def is_free_with_clauses(tongue):
    return tongue.verbs == "free" and any(frame.clause is not None for frame in tongue.frames)


class HabitTest(unittest.TestCase):
    def test_check_habit(self):
        for tongue in (all_alike(1), two_roles(), all_alike(3), great()):
            many = len(tongue.roles)
            for habit in list(permutations(range(many)))[::1 if many < 4 else 97]:
                self.assertEqual(check_habit(tongue, habit), habit)
                self.assertEqual(check_habit(tongue, list(habit)), habit)
                self.assertIsInstance(check_habit(tongue, list(habit)), tuple)

    def test_wrong(self):
        for habit in ([0], [0, 1, 2], [0, 0], [0, 2], [1, -1], [0, "1"], [0, True], [[0], 1], "01", *STRANGE):
            refuses(self, BadHabit, {}, check_habit, two_roles(), habit)
        refuses(self, BadHabit, {}, check_habit, all_alike(1), [])

    def test_is_row_ahead(self):
        for habit in permutations((0, 1, 2, 3)):
            for slots in ((0,), (1, 3), (0, 2, 3), (0, 1, 2, 3)):
                for row, other in product(permutations(slots), repeat=2):
                    ahead = is_row_ahead(habit, row, list(other))
                    unlike = [(a, b) for a, b in zip(row, other) if a != b]
                    self.assertIs(ahead, bool(unlike) and habit.index(unlike[0][0]) < habit.index(unlike[0][1]))
        self.assertIs(is_row_ahead([2, 1, 0], (2, 0), (0, 2)), True)
        self.assertIs(is_row_ahead([2, 1, 0], (0, 2), (0, 2)), False)


class TakenPatternTest(unittest.TestCase):
    def test_against_all_readings(self):
        some = some_tongues(10, 111, 3) + [two_roles(), tiny("last", 0), nesting(agreed=1), all_alike(3, [(0, 1)])]
        kinds = set()
        for tongue, frame, things, number in heard_things(some, 6):
            for habit in habits_of(tongue)[::5 if len(tongue.roles) > 3 else 1]:
                found = habit_sorted(tongue, list(habit), frame, list(things), number)
                self.assertEqual(found, tuple(walk_taken(tongue, habit, frame, things, number)))
                self.assertEqual(taken_pattern(tongue, habit, frame, things, number), found[0])
                self.assertTrue(are_tuples(found))
                kinds.add((len(found) > 1, len({roles_in(pattern) for pattern in found}) > 1))
        self.assertEqual(kinds, {(False, False), (True, False), (True, True)})

    def test_ahead_of_all_others(self):
        tongue = all_alike(3)
        things = ((0, ("a",)),) * 3
        for habit in permutations(range(3)):
            found = habit_sorted(tongue, habit, 0, things, None)
            self.assertEqual(len(found), 48)
            self.assertEqual([roles_in(pattern) for pattern in found[::8]],
                             sorted(permutations(range(3)), key=lambda row: rank_by(habit, row)))
            self.assertEqual([numbers_in(pattern) for pattern in found[:3]], [[0, 0, 0], [0, 0, 1], [0, 1, 0]])
            self.assertEqual(roles_in(taken_pattern(tongue, habit, 0, things, None)), habit)

    def test_nothing_to_take(self):
        tongue = two_roles()
        for things in ([(0, ("zz",)), (0, None)], [(0, ("s",)), (0, ("s",))]):
            refuses(self, Nothing, {}, taken_pattern, tongue, (0, 1), 0, things, None)
            self.assertEqual(habit_sorted(tongue, (0, 1), 0, things, None), ())

    def test_errors_in_their_order(self):
        tongue = nesting(agreed=0)
        things = [(0, ("a",)), (0, ("a",)), None]
        habit = [0, 1, 2, 3]
        for call in (taken_pattern, habit_sorted):
            for wrong in ([0, 1, 2], [0, 1, 2, 2], *STRANGE):
                refuses(self, BadHabit, {}, call, tongue, wrong, 0, things, "one")
                refuses(self, BadHabit, {}, call, tongue, wrong, 9, None, None)
            for frame in (4, -1, "0", *STRANGE):
                refuses(self, NoFrame, {"frame": frame}, call, tongue, habit, frame, None, None)
            refuses(self, BadThings, {"index": 0, "what": "many"}, call, tongue, habit, 0, things[:2], "one")
            refuses(self, BadThings, {"index": 1, "what": "thing"}, call, tongue, habit, 0, [things[0], 3, None], "one")
            refuses(self, BadThings, {"index": 1, "what": "clause"}, call, tongue, habit, 0, [None, None, 3], "one")
            refuses(self, BadThings, {"index": 0, "what": "number"}, call, tongue, habit, 0, things, None)
        refuses(self, BadThings, {"index": 0, "what": "number"}, taken_pattern, tongue, habit, 0,
                [(0, ("zz",))] * 2 + [None], None)

    def test_nothing_changes(self):
        tongue, habit, things = two_roles(), [1, 0], [[0, ["a"]], [0, None]]
        taken_pattern(tongue, habit, 0, things, None)
        habit_sorted(tongue, habit, 0, things, None)
        self.assertEqual((habit, things, tongue), ([1, 0], [[0, ["a"]], [0, None]], two_roles()))


class TakenTest(unittest.TestCase):
    def tongues(self):
        found = [tiny("last"), tiny("first", 0, [(1, 0)]), tiny("last", None, [(0, 1), (1, 2)]), two_roles((), "free")]
        found += some_tongues(10, 113, 3, "last") + some_tongues(10, 114, 3, "first") + some_tongues(10, 115, 3, "free")
        return [tongue for tongue in found if not is_free_with_clauses(tongue)]

    def rank(self, habit, saying):
        return [(rank_by(habit, roles_in(pattern_of(told))), numbers_in(pattern_of(told))) for told in chain(saying)]

    def test_against_all_sayings(self):
        unlike = 0
        for tongue in self.tongues():
            rows = grouped(tongue, 5)
            for heard, sayings in list(rows.items())[::2]:
                for habit in habits_of(tongue)[::2]:
                    best = min(sayings, key=lambda saying: self.rank(habit, saying))
                    # Each clause is taken by itself.
                    for depth in range(len(chain(best))):
                        self.assertEqual(self.rank(habit, best)[depth],
                                         min(self.rank(habit, saying)[depth] for saying in sayings))
                    self.assertEqual(taken(tongue, list(habit), list(heard)), best)
                    for saying in sayings:
                        self.assertIs(is_understood(tongue, habit, saying), has_same_roles(saying, best))
                        unlike += not has_same_roles(saying, best)
        self.assertGreater(unlike, 50)

    def test_swallowed(self):
        for tongue in self.tongues()[::3]:
            rows = grouped(tongue, 4)
            for heard in list(rows)[::3]:
                nouns = [place for place, piece in enumerate(heard) if piece[0] == "noun"]
                hidden = swallow(heard, nouns[:1])
                for habit in habits_of(tongue)[::2]:
                    best = min(matching(rows, hidden), key=lambda saying: self.rank(habit, saying))
                    self.assertEqual(taken(tongue, habit, hidden), best)

    def test_items_stand_as_heard(self):
        tongue = tiny("last")
        x, y, z = [("noun", stem, 0, ("a",)) for stem in "xyz"]
        heard = [x, y, z, ("verb", 2, "one"), ("verb", 0, None)]
        inner = Saying(tongue, 2, [("noun", "y", 0, 2, "one"), ("noun", "z", 0, 0, "one"), VERB])
        self.assertEqual(taken(tongue, (2, 0, 1), heard),
                         Saying(tongue, 0, [("noun", "x", 0, 0, "one"), ("clause", 1, inner), VERB]))
        heard = [y, z, ("verb", 2, "one"), x, ("verb", 0, None)]
        self.assertEqual(taken(tongue, (2, 0, 1), heard),
                         Saying(tongue, 0, [("clause", 1, inner), ("noun", "x", 0, 0, "one"), VERB]))

    def test_understood_exactly_if_each_clause_is(self):
        for tongue in self.tongues():
            for habit in habits_of(tongue)[:3]:
                for saying in [saying for lot in grouped(tongue, 5).values() for saying in lot][::7]:
                    own = [self.is_taken_so(habit, told) for told in chain(saying)]
                    self.assertIs(is_understood(tongue, habit, saying), all(own))
                    safe = [roles_in(pattern_of(told)) in list(safe_orders(tongue, habit, told.frame))
                            for told in chain(saying)]
                    if all(safe):
                        self.assertTrue(is_understood(tongue, habit, saying))

    def is_taken_so(self, habit, saying):
        """Whether the outermost clause by itself is taken with its own roles."""
        pattern = pattern_of(saying)
        things, number = walk_shown(saying.tongue, saying.frame, pattern)
        return roles_in(walk_taken(saying.tongue, habit, saying.frame, things, number)[0]) == roles_in(pattern)

    def test_nothing_to_take(self):
        tongue = tiny("last")
        x, bad = ("noun", "x", 0, ("a",)), ("noun", "y", 0, ("z",))
        for heard in ([bad, ("verb", 1, None)], [x, bad, ("verb", 1, None), ("verb", 0, None)],
                      [bad, x, ("verb", 1, None), ("verb", 0, None)]):
            refuses(self, Nothing, {}, taken, tongue, (0, 1, 2), heard)

    def test_errors_in_their_order(self):
        noun = ("noun", "x", 0, ("a",))
        for wrong in ([0, 1], [0, 1, 1], *STRANGE):
            refuses(self, BadHabit, {}, taken, tiny("free"), wrong, None)
            refuses(self, BadHabit, {}, is_understood, tiny("free"), wrong, plain_saying(tiny("free"), 0))
            refuses(self, BadHabit, {}, is_understood, tiny("last"), wrong, plain_saying(tiny("last"), 1))
        for tongue in (tiny("free"), tiny("last")):
            for heard in ([], [noun] * 15, *STRANGE):
                refuses(self, BadHeard, {"index": 0, "what": "many"}, taken, tongue, (0, 1, 2), heard)
            refuses(self, BadHeard, {"index": 1, "what": "piece"}, taken, tongue, (0, 1, 2), [noun, 3])
        refuses(self, FreeClauses, {}, taken, tiny("free"), (0, 1, 2), [noun])
        for frame in (0, 1):
            refuses(self, FreeClauses, {}, is_understood, tiny("free"), (0, 1, 2), plain_saying(tiny("free"), frame))
        bad = ("noun", "y", 0, ("z",))
        refuses(self, BadBlocks, {"place": 2}, taken, tiny("last"), (0, 1, 2), [bad, bad])
        refuses(self, BadBlocks, {"place": 0}, taken, tiny("last"), (0, 1, 2), [("verb", 1, None), bad])

    def test_nothing_changes(self):
        tongue, habit, heard = tiny("last"), [2, 1, 0], [["noun", "x", 0, ["a"]], ["verb", 1, None]]
        saying = taken(tongue, habit, heard)
        self.assertEqual(heard_of(saying), (("noun", "x", 0, ("a",)), ("verb", 1, None)))
        is_understood(tongue, habit, saying)
        self.assertEqual((habit, heard), ([2, 1, 0], [["noun", "x", 0, ["a"]], ["verb", 1, None]]))


if __name__ == "__main__":
    unittest.main()
