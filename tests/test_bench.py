"""[10.10]: a bench on which changes are put, taken back and tried."""

import unittest
from random import Random

from looseorder.bench import Bench
from looseorder.errors import BadChange, BadThings, BadWish, NoChange, NoFrame
from looseorder.wishes import Broken, broken_fault
from support import (STRANGE, all_alike, are_tuples, great, nesting, refuses, some_tongues, two_roles, walk_readings)
from test_changes import FORMS, listed, some_changes, walk_changes
from test_wishes import granted, some_wishes


def state(bench):
    return bench.start, bench.tongue, bench.standing, bench.log, len(bench), list(bench)


class Walked:
    """What a bench should be, by the words of [10.10]."""

    def __init__(self, tongue):
        self.start, self.standing, self.log, self.last = tongue, [], [], 0

    def put(self, change):
        self.last += 1
        self.standing.append((self.last, change))
        self.log.append(("put", self.last, change))
        return self.last

    def take_back(self, number):
        change = dict(self.standing)[number]
        self.standing.remove((number, change))
        self.log.append(("back", number, change))

    def state(self):
        tongue = walk_changes(self.start, [change for _, change in self.standing])
        return self.start, tongue, tuple(self.standing), tuple(self.log), len(self.standing), list(self.standing)

    def copy(self):
        other = Walked(self.start)
        other.standing, other.log, other.last = list(self.standing), list(self.log), self.last
        return other


class Stop(Exception):
    """What a block raises."""


class BenchTest(unittest.TestCase):
    def test_a_new_bench(self):
        for tongue in (two_roles(), great()):
            bench = Bench(tongue)
            self.assertEqual(state(bench), (tongue, tongue, (), (), 0, []))

    def test_put_and_take_back(self):
        source = Random(241)
        for tongue in [*some_tongues(12, 242), nesting(), all_alike(3)]:
            bench, walked = Bench(tongue), Walked(tongue)
            for _ in range(30):
                if walked.standing and source.random() < 0.4:
                    number = source.choice(walked.standing)[0]
                    self.assertIsNone(bench.take_back(number))
                    walked.take_back(number)
                else:
                    forms = ("ending", "wear") + (("rule", "strike", "article") if len(tongue.roles) > 1 else ())
                    change, = some_changes(tongue, source, 1, forms)
                    self.assertEqual(bench.put(listed(change)), walked.put(change))
                self.assertEqual(state(bench), walked.state())
            self.assertTrue(are_tuples((bench.standing, bench.log)))

    def test_sixty_and_more(self):
        source = Random(243)
        bench, walked = Bench(nesting()), Walked(nesting())
        for change in some_changes(nesting(), source, 64):
            self.assertEqual(bench.put(change), walked.put(change))
        self.assertEqual(state(bench), walked.state())
        for number in (1, 64, 30):
            bench.take_back(number)
            walked.take_back(number)
        self.assertEqual(state(bench), walked.state())

    def test_numbers_go_on(self):
        bench = Bench(two_roles())
        self.assertEqual([bench.put(("rule", 0, 1)), bench.put(("rule", 1, 0)), bench.put(("wear", ()))], [1, 2, 3])
        bench.take_back(3)
        bench.take_back(1)
        self.assertEqual(bench.put(("strike", 0, 1)), 4)
        self.assertEqual(bench.standing, ((2, ("rule", 1, 0)), (4, ("strike", 0, 1))))
        self.assertEqual(bench.log, (("put", 1, ("rule", 0, 1)), ("put", 2, ("rule", 1, 0)), ("put", 3, ("wear", ())),
                                     ("back", 3, ("wear", ())), ("back", 1, ("rule", 0, 1)),
                                     ("put", 4, ("strike", 0, 1))))

    def test_what_was_kept_out_comes_in(self):
        """A rule that another one kept out is in the tongue as soon as that one is taken back."""
        bench = Bench(two_roles())
        bench.put(("rule", 0, 1))
        bench.put(("rule", 1, 0))
        self.assertEqual(bench.tongue.rules, ((0, 1),))
        bench.take_back(1)
        self.assertEqual(bench.tongue.rules, ((1, 0),))
        bench.take_back(2)
        self.assertEqual((bench.tongue, len(bench)), (two_roles(), 0))

    def test_wrong_changes(self):
        bench = Bench(nesting())
        bench.put(FORMS[0])
        before = state(bench)
        for change, what in ((None, "change"), ((), "change"), (("rule", 0), "change"), (("rule", 0, 0), "role"),
                             (("ending", 2, 0, "one", ("a",)), "stock"), (("ending", 1, 0, "one", ("a",)), "role"),
                             (("ending", 1, 1, "two", ("a",)), "number"), (("ending", 1, 1, "one", ()), "ending"),
                             (("wear", None), "wear"), (("article", 0, None), "article"),
                             *[(thing, "change") for thing in STRANGE]):
            refuses(self, BadChange, {"index": 0, "what": what}, bench.put, change)
            self.assertEqual(state(bench), before)
        self.assertEqual(bench.put(FORMS[1]), 2)

    def test_wrong_numbers(self):
        bench = Bench(nesting())
        for number in (1, 0, *STRANGE):
            refuses(self, NoChange, {"number": number}, bench.take_back, number)
        for change in FORMS:
            bench.put(change)
        bench.take_back(2)
        before = state(bench)
        for number in (2, 0, 6, -1, 10 ** 40, "1", [1], *STRANGE):
            refuses(self, NoChange, {"number": number}, bench.take_back, number)
            self.assertEqual(state(bench), before)
        self.assertEqual(bench.put(FORMS[0]), 6)

    def test_what_is_kept_stays(self):
        change = ["article", 1, [[3, "many", "the"]]]
        bench = Bench(nesting())
        bench.put(change)
        change[2][0][2] = "q"
        told = ("article", 1, ((3, "many", "the"),))
        self.assertEqual((bench.standing, bench.log), (((1, told),), (("put", 1, told),)))
        self.assertEqual(bench.start, nesting())
        # Tuples that were handed out stay as they were.
        standing, log = bench.standing, bench.log
        bench.put(("wear", ()))
        self.assertEqual((standing, log), (((1, told),), (("put", 1, told),)))


class NowTest(unittest.TestCase):
    def test_broken_now(self):
        source = Random(244)
        met = set()
        for tongue in [two_roles(), nesting(), all_alike(3)] * 4:
            bench = Bench(tongue)
            for change in some_changes(tongue, source, 6):
                bench.put(change)
                wishes = some_wishes(tongue, source, 2)
                first = next((at for at, wish in enumerate(wishes) if not granted(bench.tongue, wish)), None)
                found = bench.broken_now(listed(wishes))
                met.add(first)
                if first is None:
                    self.assertIsNone(found)
                else:
                    self.assertEqual((type(found), found.index), (Broken, first))
                    self.assertIsNone(broken_fault(bench.tongue, wishes, found))
        self.assertEqual(met, {None, 0, 1})

    def test_hear_now(self):
        bench = Bench(two_roles())
        see = [[0, ["a"]], [0, None]]
        for change in (("rule", 0, 1), ("strike", 0, 1), ("ending", 0, 0, "one", ("q",)), ("wear", (("q", "a"),))):
            bench.put(change)
            found = bench.hear_now(0, see, None)
            self.assertEqual(found, tuple(walk_readings(bench.tongue, 0, ((0, ("a",)), (0, None)), None)))
            self.assertTrue(are_tuples(found))
        self.assertEqual(bench.hear_now(0, [(0, ("zz",)), (0, None)], None), ())

    def test_wrong(self):
        bench = Bench(two_roles())
        bench.put(("rule", 0, 1))
        before = state(bench)
        for frame in (2, -1, *STRANGE):
            refuses(self, NoFrame, {"frame": frame}, bench.hear_now, frame, None, None)
        refuses(self, BadThings, {"index": 0, "what": "many"}, bench.hear_now, 0, [], None)
        refuses(self, BadThings, {"index": 0, "what": "number"}, bench.hear_now, 1, [(0, ("a",))], "one")
        refuses(self, BadWish, {"index": 1}, bench.broken_now, [("clear",), None])
        refuses(self, BadWish, {"index": 0}, bench.broken_now, [])
        self.assertEqual(state(bench), before)


class TrialTest(unittest.TestCase):
    def test_all_is_as_it_was(self):
        bench = Bench(nesting())
        for change in FORMS[:3]:
            bench.put(change)
        bench.take_back(2)
        before = state(bench)
        with bench.trial() as tried:
            self.assertIs(tried, bench)
            self.assertEqual(state(bench), before)
            self.assertEqual(bench.put(FORMS[3]), 4)
            bench.take_back(1)
            self.assertEqual(bench.put(FORMS[4]), 5)
            self.assertEqual([number for number, _ in bench], [3, 4, 5])
        self.assertEqual(state(bench), before)
        self.assertEqual(bench.put(FORMS[4]), 4)

    def test_an_error_goes_on(self):
        bench = Bench(two_roles())
        bench.put(("rule", 0, 1))
        before = state(bench)
        for error in (Stop, KeyError, NoChange):
            with self.assertRaises(error) as caught:
                with bench.trial():
                    bench.put(("wear", [("a", "b")]))
                    raise Stop() if error is Stop else {}["x"] if error is KeyError else NoChange(9)
            self.assertIs(type(caught.exception), error)
            self.assertEqual(state(bench), before)
        with self.assertRaises(BadChange):
            with bench.trial():
                bench.take_back(1)
                bench.put(None)
        self.assertEqual(state(bench), before)
        self.assertEqual(bench.put(("wear", ())), 2)

    def test_as_it_was_when_the_block_was_entered(self):
        bench = Bench(two_roles())
        trial = bench.trial()
        bench.put(("rule", 0, 1))
        before = state(bench)
        with trial:
            bench.take_back(1)
        self.assertEqual(state(bench), before)
        self.assertEqual(bench.put(("wear", ())), 2)

    def test_trials_in_trials(self):
        bench, walked = Bench(nesting()), Walked(nesting())
        bench.put(FORMS[0])
        walked.put(FORMS[0])
        with bench.trial():
            inner = walked.copy()
            bench.put(FORMS[1])
            inner.put(FORMS[1])
            with bench.trial() as deep:
                deep.take_back(1)
                deep.put(FORMS[2])
                self.assertEqual([number for number, _ in bench.standing], [2, 3])
                with self.assertRaises(Stop):
                    with deep.trial():
                        deep.put(FORMS[3])
                        raise Stop()
                self.assertEqual([number for number, _ in bench.standing], [2, 3])
            self.assertEqual(state(bench), inner.state())
            self.assertEqual(bench.put(FORMS[3]), 3)
        self.assertEqual(state(bench), walked.state())
        self.assertEqual(bench.put(FORMS[4]), 2)

    def test_start_too(self):
        bench = Bench(two_roles())
        with bench.trial():
            bench.start = nesting()
            bench.log = None
        self.assertEqual((bench.start, bench.log), (two_roles(), ()))

    def test_benches_do_not_share(self):
        one, other = Bench(two_roles()), Bench(two_roles())
        one.put(("rule", 0, 1))
        with one.trial():
            other.put(("rule", 1, 0))
            one.put(("wear", ()))
        self.assertEqual((one.tongue.rules, other.tongue.rules), (((0, 1),), ((1, 0),)))
        self.assertEqual((len(one), len(other)), (1, 1))

    def test_tried(self):
        bench = Bench(two_roles())
        bench.put(("strike", 0, 1))
        before = state(bench)

        def call(told):
            self.assertIs(told, bench)
            self.assertEqual(told.put(("rule", 0, 1)), 2)
            inner = told.tried(lambda more: (more.put(("rule", 1, 0)), len(more)))
            self.assertEqual(inner, (3, 2 + 1))
            return told.broken_now([("clear",)]), len(told), told.tongue

        self.assertEqual(bench.tried(call), (None, 2, two_roles([(0, 1)])))
        self.assertEqual(state(bench), before)
        self.assertIsNone(bench.tried(lambda told: None))
        self.assertIs(bench.tried(lambda told: told), bench)

    def test_tried_raises(self):
        bench = Bench(two_roles())
        bench.put(("rule", 0, 1))
        before = state(bench)

        def call(told):
            told.put(("wear", ()))
            raise Stop("just this")

        with self.assertRaises(Stop) as caught:
            bench.tried(call)
        self.assertEqual(str(caught.exception), "just this")
        self.assertEqual(state(bench), before)
        refuses(self, NoChange, {"number": 7}, bench.tried, lambda told: told.take_back(7))
        self.assertEqual(state(bench), before)
        self.assertEqual(bench.put(("wear", ())), 2)

    def test_iteration(self):
        bench = Bench(two_roles())
        for change in (("rule", 0, 1), ("wear", ())):
            bench.put(change)
        self.assertEqual(list(bench), list(bench.standing))
        self.assertEqual([number for number, _ in bench], [1, 2])
        self.assertIn((1, ("rule", 0, 1)), bench)
        self.assertNotIn((3, ("rule", 0, 1)), bench)


if __name__ == "__main__":
    unittest.main()
