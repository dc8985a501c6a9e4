"""[5.5] to [5.7]: agreed roles, the fewest that make a tongue wholly clear, things that agreement saves."""

import unittest
from itertools import product

from looseorder.agreeing import (Choices, TwoDoubtful, count_agreements, is_saved, least_agreement, with_agreement,
                                 without_agreement)
from looseorder.coincide import Exchange, first_exchange
from looseorder.doubts import doubtful_roles, first_doubt
from looseorder.errors import BadChoices, BadThings, NoFrame, NoReading
from looseorder.frames import Frame
from looseorder.stocks import Stock
from looseorder.tongues import Tongue
from support import (STRANGE, all_alike, four_stocks, great, heard_things, nesting, one_frame, refuses, roles_in,
                     some_tongues, two_roles, walk_alike, walk_readings, words)


def doubtful(texts, frames):
    """One stock, and frames of these noun roles, all in order."""
    many = len(texts.split())
    told = [Frame("f" + chr(97 + at), nouns) for at, nouns in enumerate(frames)]
    rules = [(role, role + 1) for role in range(many - 1)]
    return Tongue(["r" + chr(97 + role) for role in range(many)], [Stock("n", words(texts, many))], told, rules)


def tongues():
    return some_tongues(40, 55, 3) + [
        two_roles(), two_roles([(0, 1)]), nesting(agreed=1), nesting(rules=[(0, 1), (1, 3)]), four_stocks(),
        all_alike(1), all_alike(1, (), 0), all_alike(3, [(0, 1), (1, 2)], 1), doubtful("aa bc", [[0, 1], [1]]),
        doubtful("aa bb", [[0], [0, 1], [1]]), doubtful("ab cc de", [[0, 1], [0, 2], [1, 2], [0]]),
        doubtful("ab cd", [[0, 1], [1]]), doubtful("aa bb cc", [[0, 1, 2], [1]])]


def all_choices(tongue):
    return list(product(*[(None, *frame.nouns) for frame in tongue.frames]))


def is_wholly_clear(tongue):
    return all(len(lot) == 1 for frame in range(len(tongue.frames)) for lot in walk_alike(tongue, frame))


class WithAgreementTest(unittest.TestCase):
    def test_all_choices(self):
        for tongue in tongues()[::2] + [great()]:
            for choices in all_choices(tongue)[::3]:
                for told in (choices, list(choices)):
                    found = with_agreement(tongue, told)
                    self.assertIs(type(found), Tongue)
                    frames = tuple(Frame(f.name, f.nouns, f.clause, a) for f, a in zip(tongue.frames, choices))
                    self.assertEqual(found, Tongue(tongue.roles, tongue.stocks, frames, tongue.rules, tongue.verbs))

    def test_without(self):
        for tongue in tongues():
            found = without_agreement(tongue)
            self.assertEqual([frame.agreed for frame in found.frames], [None] * len(tongue.frames))
            self.assertEqual(found, with_agreement(tongue, (None,) * len(tongue.frames)))

    def test_agreement_never_makes_clear_or_unclear(self):
        for tongue in tongues():
            for choices in all_choices(tongue):
                self.assertEqual(first_exchange(with_agreement(tongue, choices)), first_exchange(tongue))

    def test_wrong(self):
        tongue = nesting()
        for choices in (*STRANGE, (), [None] * 3, [None] * 5, {0: 0, 1: 1, 2: 0, 3: 1}, iter([None] * 4), "abcd"):
            refuses(self, BadChoices, {"index": 0}, with_agreement, tongue, choices)
        for choice in (2, 4, -1, 10 ** 40, [0], *STRANGE[1:]):
            for at in range(4):
                choices = [None, 0, 0, 1]
                choices[at] = choice
                refuses(self, BadChoices, {"index": at}, with_agreement, tongue, choices)
        refuses(self, BadChoices, {"index": 1}, with_agreement, tongue, [0, 2, 1, 0])
        refuses(self, BadChoices, {"index": 2}, with_agreement, tongue, [0, 3, 1, 0])

    def test_nothing_changes(self):
        tongue, choices = nesting(), [0, None, None, 1]
        found = with_agreement(tongue, choices)
        choices[0] = 1
        self.assertEqual((tongue, found.frames[0].agreed), (nesting(), 0))


class LeastTest(unittest.TestCase):
    def test_against_all_choices(self):
        kinds = set()
        for tongue in tongues():
            right = [choices for choices in all_choices(tongue)
                     if is_wholly_clear(with_agreement(tongue, choices))]
            self.assertEqual(count_agreements(tongue), len(right))
            found = least_agreement(tongue)
            kinds.add(type(found))
            self.assertEqual(type(found) is Choices, right != [])
            if right:
                fewest = min(len(choices) - choices.count(None) for choices in right)
                least = [choices for choices in right if len(choices) - choices.count(None) == fewest]
                self.assertEqual(least, [found.agreed])
                self.assertIsNone(first_doubt(with_agreement(tongue, found.agreed)))
        self.assertEqual(kinds, {Choices, TwoDoubtful, Exchange})

    def test_first_exchange(self):
        for tongue in (two_roles(), all_alike(3), nesting()):
            self.assertEqual(least_agreement(tongue), first_exchange(tongue))
            self.assertEqual(count_agreements(tongue), 0)

    def test_two_doubtful(self):
        found = least_agreement(doubtful("ab cc dd ee", [[0, 1], [1, 2, 3], [2, 3]]))
        self.assertEqual((found.frame, found.role, found.other), (1, 1, 2))
        for tongue in tongues():
            found = least_agreement(tongue)
            if type(found) is TwoDoubtful:
                frames = [f for f in range(len(tongue.frames)) if len(doubtful_roles(tongue, f)) > 1]
                self.assertEqual(found, TwoDoubtful(frames[0], *doubtful_roles(tongue, frames[0])[:2]))

    def test_the_agreed_roles_it_has_count_nothing(self):
        for tongue in tongues()[::3]:
            for choices in all_choices(tongue):
                told = with_agreement(tongue, choices)
                self.assertEqual(least_agreement(told), least_agreement(tongue))
                self.assertEqual(count_agreements(told), count_agreements(tongue))

    def test_counts(self):
        self.assertEqual(count_agreements(doubtful("ab cc de", [[0, 1, 2], [0], [0, 2], [1, 2]])), 1 * 2 * 3 * 1)
        self.assertEqual(least_agreement(doubtful("ab cc de", [[0, 1, 2], [0], [0, 2], [1, 2]])),
                         Choices((1, None, None, 1)))
        self.assertEqual(count_agreements(doubtful("ab cc dd", [[0, 1, 2], [0]])), 0)
        self.assertEqual(count_agreements(one_frame(words("ab cd ef gh ij", 5))), 6)


class SavedTest(unittest.TestCase):
    def test_against_all_readings(self):
        found = {True: 0, False: 0}
        saving = [one_frame([(0, ("a",), ("b",)), (1, ("b",), ("a",))], (), 0), two_roles().with_agreed(0, 1),
                  one_frame(words("ab bc ca", 3), [(0, 1)], 2), nesting(agreed=0)]
        for tongue, frame, things, number in heard_things(tongues() + saving):
            rows = {roles_in(reading) for reading in walk_readings(tongue, frame, things, number)}
            bare = with_agreement(tongue, [None] * len(tongue.frames))
            more = {roles_in(reading) for reading in walk_readings(bare, frame, things, None)}
            told = tongue.frames[frame].agreed is not None and len(rows) == 1 and len(more) > 1
            self.assertIs(is_saved(tongue, frame, things, number), told)
            found[told] += 1
        self.assertGreater(found[True], 20)

    def test_plain(self):
        # The noun in "b" is one in role 1 and many in role 0, so the number of role 0 tells them apart.
        tongue = one_frame([(0, ("a",), ("b",)), (1, ("b",), ("a",))], (), 0)
        things = [(0, ("a",)), (0, ("b",))]
        self.assertIsNotNone(first_exchange(tongue))
        self.assertIs(is_saved(tongue, 0, things, "one"), True)
        self.assertIs(is_saved(tongue, 0, things, "many"), True)
        self.assertIs(is_saved(tongue, 0, [[0, ["a"]], [0, None]], "one"), False)
        self.assertIs(is_saved(without_agreement(tongue), 0, things, None), False)
        self.assertIs(is_saved(tongue.with_rule(0, 1), 0, things, "one"), False)

    def test_wrong(self):
        tongue = nesting()
        for frame in (4, -1, *STRANGE):
            refuses(self, NoFrame, {"frame": frame}, is_saved, tongue, frame, None, None)
        refuses(self, BadThings, {"index": 0, "what": "many"}, is_saved, tongue, 0, [], "x")
        refuses(self, BadThings, {"index": 0, "what": "number"}, is_saved, tongue, 2, [(0, ("q",))], None)
        refuses(self, NoReading, {}, is_saved, tongue, 2, [(0, ("q",))], "one")
        # The reading must have this number, although the tongue without agreement has one.
        refuses(self, NoReading, {}, is_saved, tongue, 2, [(0, ("a",))], "many")
        # Also in a frame without an agreed role.
        refuses(self, NoReading, {}, is_saved, tongue, 1, [(0, ("q",))] * 3, None)

    def test_nothing_changes(self):
        things = [[0, ["a"]], [0, ["a"]]]
        is_saved(two_roles().with_agreed(0, 0), 0, things, "one")
        self.assertEqual(things, [[0, ["a"]], [0, ["a"]]])


if __name__ == "__main__":
    unittest.main()
