"""[8.2] to [8.4], [8.8], [8.9]: safe orders, and what is misheard in the others."""

import unittest
from itertools import permutations

from looseorder.coincide import clear_frames
from looseorder.errors import BadHabit, NoFrame, NoOrder, TooManyRoles
from looseorder.habits import taken_pattern
from looseorder.patterns import check_pattern
from looseorder.safety import (Misheard, first_order, misheard_order, misheard_patterns, safe_orders, serving_habits)
from looseorder.shown import shown_of
from support import (NUMBERS, STRANGE, all_alike, are_tuples, four_stocks, great, nesting, one_frame, rank_by, refuses,
                     roles_in, some_tongues, step_ranks, steps_from, table_of, tiny, two_roles, walk_orders,
                     walk_patterns, walk_readings, walk_shown, walk_taken, words)


def tongues():
    found = some_tongues(16, 121, 3) + [two_roles(), two_roles([(1, 0)]), tiny("last", 0), tiny("free", None, [(0, 1)])]
    found += [all_alike(3), all_alike(3, [(0, 1)]), all_alike(3, (), 1), one_frame(words("ab ab ba", 3), (), 0)]
    return found + [one_frame(words("ab bc ca", 3), (), 1), one_frame(words("ab bc ca", 3), [(0, 2)], 1), four_stocks()]


def habits_of(tongue):
    return list(permutations(range(len(tongue.roles))))[::1 if len(tongue.roles) < 4 else 7]


def read_by_order(tongue, frame):
    """For each order, its patterns with all readings of what is shown of them."""
    found = {order: [] for order in walk_orders(tongue, frame)}
    alike = {}
    for pattern in walk_patterns(tongue, frame):
        alike.setdefault(walk_shown(tongue, frame, pattern), []).append(pattern)
    for lot in alike.values():
        for pattern in lot:
            found[roles_in(pattern)].append((pattern, lot))
    return found


def walk_misheard(tongue, habit, frame, order, read):
    """The steps of the first Misheard of an order, from all its patterns and their readings; None if it is safe."""
    agreed = tongue.frames[frame].agreed
    found = []
    for said, lot in read[order]:
        for other in lot:
            if rank_by(habit, roles_in(other)) < rank_by(habit, order):
                steps = steps_from(said, other)
                found.append((rank_by(habit, roles_in(other)), step_ranks(agreed, steps), steps))
    return min(found)[2] if found else None


class MisheardTest(unittest.TestCase):
    def test_exactly_if_some_pattern_is_taken_otherwise(self):
        counts = {True: 0, False: 0}
        for tongue in tongues():
            for frame in range(len(tongue.frames)):
                read = read_by_order(tongue, frame)
                for habit in habits_of(tongue):
                    safe = []
                    for order in walk_orders(tongue, frame):
                        steps = walk_misheard(tongue, habit, frame, order, read)
                        self.check(tongue, habit, frame, order, steps)
                        counts[steps is None] += 1
                        safe += [order] if steps is None else []
                    self.assertEqual(list(safe_orders(tongue, list(habit), frame)), safe)
        self.assertGreater(min(counts.values()), 100)

    def check(self, tongue, habit, frame, order, steps):
        found = misheard_order(tongue, list(habit), frame, list(order))
        if steps is None:
            self.assertIsNone(found)
            return
        self.assertEqual((type(found), found.frame, found.order, found.steps), (Misheard, frame, order, steps))
        self.assertTrue(are_tuples((found.order, found.steps)))
        said, read = misheard_patterns(found)
        self.assertEqual(check_pattern(tongue, frame, said), said)
        self.assertEqual(roles_in(said), order)
        things, number = walk_shown(tongue, frame, said)
        self.assertEqual(walk_shown(tongue, frame, read), (things, number))
        # For what is shown of the said pattern, the read one is just what is taken.
        self.assertEqual(walk_taken(tongue, habit, frame, things, number)[0], read)

    def test_safe_by_the_word(self):
        for tongue in tongues()[::2]:
            for frame in range(len(tongue.frames)):
                for habit in habits_of(tongue)[::2]:
                    unsafe = set()
                    for pattern in walk_patterns(tongue, frame):
                        things, number = shown_of(tongue, frame, pattern)
                        if roles_in(taken_pattern(tongue, habit, frame, things, number)) != roles_in(pattern):
                            unsafe.add(roles_in(pattern))
                    safe = [order for order in walk_orders(tongue, frame) if order not in unsafe]
                    self.assertEqual(list(safe_orders(tongue, habit, frame)), safe)

    def test_agreed_number_saves_an_order(self):
        """The roles go round in a ring of three, in which the middle one is said and read in unlike numbers."""
        free, told = [one_frame(words("ab bc ca", 3), [(0, 2)], agreed) for agreed in (None, 1)]
        saved = [(habit, order) for habit in permutations(range(3)) for order in walk_orders(free, 0)
                 if misheard_order(free, habit, 0, order) is not None and misheard_order(told, habit, 0, order) is None]
        self.assertTrue(saved)
        for habit, order in saved:
            self.assertIsNone(walk_misheard(told, habit, 0, order, read_by_order(told, 0)))

    def test_first_cells(self):
        tongue = four_stocks()
        found = misheard_order(tongue, (3, 2, 1, 0), 0, (0, 1, 2))
        read = read_by_order(tongue, 0)
        self.assertEqual(found.steps, walk_misheard(tongue, (3, 2, 1, 0), 0, (0, 1, 2), read))
        kinds = {step[2:] for step in found.steps}
        self.assertTrue(all(entry[1] in NUMBERS and entry[2] in NUMBERS for entry in kinds))

    def test_great(self):
        tongue = great()
        habit = (5, 4, 3, 2, 1, 0)
        safe = list(safe_orders(tongue, habit, 0))
        self.assertIn(first_order(tongue, habit, 0), safe)
        for order in walk_orders(tongue, 0)[::17]:
            found = misheard_order(tongue, habit, 0, order)
            self.assertEqual(found is None, order in safe)
            if found is not None:
                said, read = misheard_patterns(found)
                self.assertEqual(walk_shown(tongue, 0, said), walk_shown(tongue, 0, read))
                self.assertLess(rank_by(habit, roles_in(read)), rank_by(habit, order))

    def test_errors_in_their_order(self):
        tongue = nesting()
        habit = (0, 1, 2, 3)
        for wrong in ([0, 1, 2], [0, 1, 2, 2], *STRANGE):
            refuses(self, BadHabit, {}, misheard_order, tongue, wrong, 9, None)
            refuses(self, BadHabit, {}, first_order, tongue, wrong, 9)
            refuses(self, BadHabit, {}, lambda told: list(safe_orders(tongue, told, 9)), wrong)
        for frame in (4, -1, "0", *STRANGE):
            refuses(self, NoFrame, {"frame": frame}, misheard_order, tongue, habit, frame, None)
            refuses(self, NoFrame, {"frame": frame}, first_order, tongue, habit, frame)
            refuses(self, NoFrame, {"frame": frame}, lambda told: list(safe_orders(tongue, habit, told)), frame)
        for order in ([0, 1], [0, 1, 3], [0, 1, 2, 3], [0, 0, 2], [0, 1, True], *STRANGE):
            refuses(self, NoOrder, {}, misheard_order, tongue, habit, 0, order)
        refuses(self, NoOrder, {}, misheard_order, nesting(rules=[(2, 3), (3, 0)]), habit, 0, (0, 2, 1))

    def test_nothing_changes(self):
        tongue, habit, order = all_alike(3), [2, 1, 0], [0, 1, 2]
        misheard_order(tongue, habit, 0, order)
        list(safe_orders(tongue, habit, 0))
        first_order(tongue, habit, 0)
        list(serving_habits(tongue, 0, order))
        self.assertEqual((tongue, habit, order), (all_alike(3), [2, 1, 0], [0, 1, 2]))


class PatternsTest(unittest.TestCase):
    def test_patterns(self):
        told = Misheard(0, (2, 0, 1), ((0, 1, 3, "one", "many"), (1, 0, 2, "many", "many")))
        self.assertEqual(misheard_patterns(told), (((2, None, None), (0, 3, "one"), (1, 2, "many")),
                                                   ((2, None, None), (1, 3, "many"), (0, 2, "many"))))
        told = Misheard(1, (4,), ((4, 4, 0, "one", "many"),))
        self.assertEqual(misheard_patterns(told), (((4, 0, "one"),), ((4, 0, "many"),)))

    def test_result(self):
        made = Misheard([0], {1: 2}, "any")
        self.assertEqual((made.frame, made.order, made.steps), ([0], {1: 2}, "any"))
        self.assertEqual(made, Misheard([0], {1: 2}, "any"))
        self.assertNotEqual(made, Misheard([0], {1: 2}, "other"))


class OrdersTest(unittest.TestCase):
    def test_what_holds_for_all(self):
        for tongue in tongues():
            for frame in range(len(tongue.frames)):
                orders = walk_orders(tongue, frame)
                clear = frame in clear_frames(tongue)
                for habit in habits_of(tongue):
                    safe = list(safe_orders(tongue, habit, frame))
                    first = first_order(tongue, habit, frame)
                    self.assertEqual(first, min(orders, key=lambda order: rank_by(habit, order)))
                    self.assertIsInstance(first, tuple)
                    self.assertIn(first, safe)
                    self.assertEqual(clear, safe == orders)
                    self.check_unlike_safe_orders(tongue, frame, safe)
                for order in orders:
                    for habit in habits_of(tongue):
                        begun = (*order, *[role for role in habit if role not in order])
                        self.assertIn(order, list(safe_orders(tongue, begun, frame)))

    def check_unlike_safe_orders(self, tongue, frame, safe):
        met = {}
        for pattern in walk_patterns(tongue, frame):
            if roles_in(pattern) in safe:
                shown = walk_shown(tongue, frame, pattern)
                self.assertEqual(met.setdefault(shown, roles_in(pattern)), roles_in(pattern))

    def test_ascending_and_once(self):
        tongue = all_alike(4, [(0, 1), (2, 3)])
        self.assertEqual(list(safe_orders(tongue, (0, 1, 2, 3), 0)), [(0, 1, 2, 3)])
        self.assertEqual(list(safe_orders(tongue, (3, 2, 1, 0), 0)), [(2, 3, 0, 1)])
        clear = one_frame(words("ab cd ef", 3))
        self.assertEqual(list(safe_orders(clear, (2, 0, 1), 0)), sorted(permutations(range(3))))

    def test_serving_habits(self):
        for tongue in tongues() + [nesting(), nesting("free", 1, [(0, 2)])]:
            for frame in range(len(tongue.frames)):
                for order in walk_orders(tongue, frame)[::3]:
                    all_habits = list(permutations(range(len(tongue.roles))))
                    found = [habit for habit in all_habits if misheard_order(tongue, habit, frame, order) is None]
                    self.assertEqual(list(serving_habits(tongue, frame, list(order))), found)

    def test_serving_habits_by_taking(self):
        for tongue in (all_alike(3), two_roles(), one_frame(words("ab bc ca", 3), (), 1)):
            for order in walk_orders(tongue, 0):
                said = [pattern for pattern in walk_patterns(tongue, 0) if roles_in(pattern) == order]
                shown = [walk_shown(tongue, 0, pattern) for pattern in said]
                readings = [walk_readings(tongue, 0, *told) for told in shown]
                found = [habit for habit in permutations(range(len(tongue.roles)))
                         if all(min(rank_by(habit, roles_in(other)) for other in lot) == rank_by(habit, order)
                                for lot in readings)]
                self.assertEqual(list(serving_habits(tongue, 0, order)), found)

    def test_serving_habits_wrong(self):
        for order in (None, (0, 1, 2, 3, 4, 5)):
            refuses(self, TooManyRoles, {"most": 4}, lambda told: list(serving_habits(great(), 9, told)), order)
        five = all_alike(5)
        refuses(self, TooManyRoles, {"most": 4}, lambda: list(serving_habits(five, 0, (0, 1, 2, 3, 4))))
        self.assertEqual(len(list(serving_habits(all_alike(4), 0, (0, 1, 2, 3)))), 1)
        for frame in (4, -1, "0", *STRANGE):
            refuses(self, NoFrame, {"frame": frame}, lambda told: list(serving_habits(nesting(), told, None)), frame)
        for order in ([0, 1], [0, 1, 3], *STRANGE):
            refuses(self, NoOrder, {}, lambda told: list(serving_habits(nesting(), 0, told)), order)
        refuses(self, NoOrder, {}, lambda: list(serving_habits(nesting(rules=[(2, 0)]), 0, (0, 2, 1))))

    def test_tables_matter(self):
        table = table_of(tiny("last"), 0)
        self.assertEqual(table[0, "one"], table[2, "one"])
        self.assertEqual(list(safe_orders(tiny("last"), (0, 1, 2), 2)), [(0, 2)])
        self.assertEqual(list(safe_orders(tiny("last"), (2, 0, 1), 2)), [(2, 0)])


if __name__ == "__main__":
    unittest.main()
