"""[1.10] turning, and new stems."""

import unittest
from itertools import permutations

from looseorder.errors import BadSaying, BadStems, BadTurn
from looseorder.flat import flat_readings
from looseorder.frames import Frame
from looseorder.patterns import check_pattern
from looseorder.sayings import Saying
from looseorder.sayable import all_shown, count_patterns
from looseorder.speaking import pattern_of, plain_saying
from looseorder.stocks import Stock
from looseorder.tongues import Tongue
from looseorder.turning import check_turn, turned_pattern, turned_saying, turned_tongue, with_stems
from support import STRANGE, are_tuples, nesting, refuses, some_tongues, two_roles, walk_patterns

VERB = ("verb",)
WRONG = (*STRANGE, (), (0, 1, 2), (0, 1, 2, 3, 4), (0, 1, 2, 2), (1, 2, 3, 4), (-1, 0, 1, 2), (0, True, 2, 3),
         (False, 1, 2, 3), ("0", 1, 2, 3), (None, 1, 2, 3), ([0], 1, 2, 3), "0123", {0: 0, 1: 1, 2: 2, 3: 3},
         iter((0, 1, 2, 3)), (0, 1, 2, 10 ** 30))


class CheckTest(unittest.TestCase):
    def test_right_turns(self):
        for turn in permutations(range(4)):
            for told in (turn, list(turn)):
                found = check_turn(nesting(), told)
                self.assertEqual(found, turn)
                self.assertIsInstance(found, tuple)

    def test_wrong_turns(self):
        saying = plain_saying(nesting(), 0)
        for turn in WRONG:
            refuses(self, BadTurn, {}, check_turn, nesting(), turn)
            refuses(self, BadTurn, {}, turned_tongue, nesting(), turn)
            refuses(self, BadTurn, {}, turned_pattern, nesting(), turn, pattern_of(saying))
            refuses(self, BadTurn, {}, turned_saying, saying, turn)

    def test_a_later_change_is_not_seen(self):
        turn = [1, 0]
        found = check_turn(two_roles(), turn)
        turn[0] = 0
        self.assertEqual(found, (1, 0))


class TongueTest(unittest.TestCase):
    def test_one_turn(self):
        noun = Stock("n", [(0, ("a",), ("b",)), (1, ("c",), ("d",))])
        tongue = Tongue(["who", "whom", "what"], [noun], [Frame("f", (0, 1), 2, 0), Frame("g", (1,), None, 1)],
                        [(0, 2), (2, 1)], "first")
        found = turned_tongue(tongue, [2, 0, 1])
        expected = Tongue(["whom", "what", "who"], [Stock("n", [(0, ("c",), ("d",)), (2, ("a",), ("b",))])],
                          [Frame("f", (0, 2), 1, 2), Frame("g", (0,), None, 0)], [(2, 1), (1, 0)], "first")
        self.assertEqual(found, expected)

    def test_turned_back(self):
        for tongue in some_tongues(20, 6):
            for turn in permutations(range(len(tongue.roles))):
                back = [turn.index(role) for role in range(len(turn))]
                self.assertEqual(turned_tongue(turned_tongue(tongue, turn), back), tongue)

    def test_closures_are_led_along(self):
        for tongue in some_tongues(20, 7):
            for turn in permutations(range(len(tongue.roles))):
                found = turned_tongue(tongue, turn)
                self.assertEqual(found.closure, tuple(sorted((turn[a], turn[b]) for a, b in tongue.closure)))
                self.assertEqual([found.roles[turn[r]] for r in range(len(turn))], list(tongue.roles))

    def test_patterns_and_readings_are_led_along(self):
        for tongue in some_tongues(8, 8, 3):
            for turn in permutations(range(len(tongue.roles))):
                other = turned_tongue(tongue, turn)
                for frame in range(len(tongue.frames)):
                    self.assertEqual(count_patterns(other, frame), count_patterns(tongue, frame))
                    for things, number in list(all_shown(tongue, frame))[:4]:
                        led = [turned_pattern(tongue, turn, p) for p in flat_readings(tongue, frame, things, number)]
                        found = list(flat_readings(other, frame, things, number))
                        self.assertEqual(sorted(map(repr, led)), sorted(map(repr, found)))

    def test_the_tongue_stays(self):
        tongue = nesting(rules=[(0, 1)])
        turned_tongue(tongue, [3, 2, 1, 0])
        self.assertEqual(tongue, nesting(rules=[(0, 1)]))


class PatternTest(unittest.TestCase):
    def test_roles_are_led(self):
        pattern = ((1, 0, "one"), (2, None, None), (0, 0, "many"))
        for told in (pattern, [list(entry) for entry in pattern]):
            found = turned_pattern(nesting(), [3, 0, 1, 2], told)
            self.assertEqual(found, ((0, 0, "one"), (1, None, None), (3, 0, "many")))
            self.assertTrue(are_tuples(found))

    def test_they_are_patterns_of_the_turned_tongue(self):
        for tongue in some_tongues(6, 9, 3):
            for turn in permutations(range(len(tongue.roles))):
                other = turned_tongue(tongue, turn)
                for frame in range(len(tongue.frames)):
                    for pattern in walk_patterns(tongue, frame):
                        led = turned_pattern(tongue, turn, pattern)
                        self.assertEqual(check_pattern(other, frame, led), led)


class SayingTest(unittest.TestCase):
    def test_clauses_are_led_too(self):
        tongue = nesting(rules=[(0, 1)])
        inner = Saying(tongue, 2, [("noun", "c", 0, 0, "many"), VERB])
        saying = Saying(tongue, 0, [("noun", "a", 0, 0, "one"), ("clause", 2, inner), ("noun", "b", 1, 1, "many"),
                                    VERB])
        other = turned_tongue(tongue, (3, 0, 1, 2))
        led = Saying(other, 2, [("noun", "c", 0, 3, "many"), VERB])
        expected = [("noun", "a", 0, 3, "one"), ("clause", 1, led), ("noun", "b", 1, 0, "many"), VERB]
        self.assertEqual(turned_saying(saying, [3, 0, 1, 2]), Saying(other, 0, expected))
        self.assertEqual(turned_saying(saying, (3, 0, 1, 2)).inner, led)

    def test_turned_back(self):
        for tongue in some_tongues(12, 10, 3):
            for frame in range(len(tongue.frames)):
                saying = plain_saying(tongue, frame)
                for turn in permutations(range(len(tongue.roles))):
                    led = turned_saying(saying, turn)
                    self.assertEqual(led.tongue, turned_tongue(tongue, turn))
                    self.assertEqual(pattern_of(led), turned_pattern(tongue, turn, pattern_of(saying)))
                    back = [turn.index(role) for role in range(len(turn))]
                    self.assertEqual(turned_saying(led, back), saying)


class StemsTest(unittest.TestCase):
    def made(self):
        tongue = nesting()
        inner = Saying(tongue, 3, [("noun", "c", 1, 1, "one"),
                                   ("clause", 2, Saying(tongue, 2, [("noun", "d", 0, 0, "one"), VERB])), VERB])
        return Saying(tongue, 0, [("noun", "a", 0, 0, "one"), ("clause", 2, inner), ("noun", "b", 0, 1, "many"), VERB])

    def test_as_heard(self):
        stems = ["man", "owl", "cat", "zzzzzz"]
        found = with_stems(self.made(), stems)
        self.assertEqual([item[1] for item in found.noun_items()], stems)
        self.assertEqual([item[2:] for item in found.noun_items()], [item[2:] for item in self.made().noun_items()])
        self.assertEqual(found.inner.said[0][1], "owl")
        self.assertEqual(found.said[2][1], "zzzzzz")
        self.assertEqual(with_stems(found, ("a", "c", "d", "b")), self.made())
        self.assertEqual(stems, ["man", "owl", "cat", "zzzzzz"])

    def test_wrong_stems(self):
        for stems in (*STRANGE, (), ["a"] * 3, ["a"] * 5, "abcd", iter("abcd"), {"a": 1, "b": 2, "c": 3, "d": 4},
                      ["a", "b", "c", ""], ["a", "b", "c", "abcdefg"], ["a", "b", "c", None], ["a", "b", "c", "D"],
                      [1, "b", "c", "d"]):
            refuses(self, BadStems, {}, with_stems, self.made(), stems)

    def test_unlike(self):
        # The nouns are of the stocks 0, 1, 0, 0.
        self.assertEqual([item[2] for item in self.made().noun_items()], [0, 1, 0, 0])
        refuses(self, BadSaying, {"place": 1, "what": "unlike"}, with_stems, self.made(), ["a", "b", "b", "c"])
        refuses(self, BadSaying, {"place": 1, "what": "unlike"}, with_stems, self.made(), ["b", "b", "a", "c"])
        refuses(self, BadSaying, {"place": 2, "what": "unlike"}, with_stems, self.made(), ["a", "b", "c", "b"])
        refuses(self, BadSaying, {"place": 1, "what": "unlike"}, with_stems, self.made(), ["b", "b", "b", "b"])
        self.assertEqual(with_stems(self.made(), ["a", "b", "a", "a"]).size, 7)

    def test_the_innermost_that_has_it(self):
        # The inner saying has it at its place 1, the outer one at its place 2.
        tongue = nesting()
        inner = Saying(tongue, 0, [("noun", "c", 0, 0, "one"), ("noun", "e", 1, 1, "one"),
                                   ("clause", 2, Saying(tongue, 2, [("noun", "d", 0, 0, "one"), VERB])), VERB])
        saying = Saying(tongue, 3, [("noun", "q", 1, 1, "one"), ("clause", 2, inner), VERB])
        refuses(self, BadSaying, {"place": 2, "what": "unlike"}, with_stems, saying, ["a", "a", "x", "x"])
        refuses(self, BadSaying, {"place": 1, "what": "unlike"}, with_stems, saying, ["a", "a", "x", "y"])


if __name__ == "__main__":
    unittest.main()
