"""[9.9], [9.10]: helps that keep a changing tongue clear."""

import unittest
from itertools import combinations
from random import Random

from looseorder.ages import Ages
from looseorder.coincide import exchange_fault, first_exchange
from looseorder.errors import BadHelp, BadPick
from looseorder.helps import Helps, helped_tongues, least_helps
from support import STRANGE, all_alike, are_tuples, nesting, one_frame, refuses, two_roles, walk_is_clear, words
from test_ages import some_ages
from test_changes import listed, some_changes, walk_change


def is_clear(tongue):
    return all(walk_is_clear(tongue, frame) for frame in range(len(tongue.frames)))


def picks(many):
    return [pick for size in range(many + 1) for pick in combinations(range(many), size)]


def walk_helped(ages, pool, pick):
    """The tongues of all ages: each change, then the helps of its age in the order of the pool."""
    tongues = []
    tongue = ages.tongue
    for age in range(len(ages)):
        if age > 0:
            tongue = walk_change(tongue, ages.changes[age - 1])
        for place in pick:
            if pool[place][0] == age:
                tongue = walk_change(tongue, pool[place][1])
        tongues.append(tongue)
    return tuple(tongues)


def some_pools(count, seed):
    """Ages with a pool of one to five helps."""
    source = Random(seed)
    for ages in some_ages(count, seed, 4):
        forms = ("rule", "article", "article") if len(ages.tongue.roles) > 1 else ("article",)
        changes = some_changes(ages.tongue, source, source.randint(1, 5), forms)
        yield ages, tuple((source.choice([0, 0, source.randrange(len(ages))]), change) for change in changes)


class HelpedTest(unittest.TestCase):
    def test_against_a_walk(self):
        for ages, pool in some_pools(90, 181):
            for pick in picks(len(pool))[::3]:
                found = helped_tongues(ages, listed(pool), list(pick))
                self.assertEqual(found, walk_helped(ages, pool, pick))
                self.assertEqual(found, helped_tongues(ages, pool, pick))
                self.assertIsInstance(found, tuple)
            self.assertEqual(helped_tongues(ages, pool, ()), tuple(tongue for _, tongue in ages.walk_ages()))

    def test_when_a_help_is_made(self):
        tongue = two_roles()
        ages = Ages(tongue, [("strike", 0, 1), ("wear", [("a", "b")])])
        rule = ("rule", 0, 1)
        for age, rules in ((0, ((0, 1),)), (1, ()), (2, ())):
            found = helped_tongues(ages, [(age, rule)], (0,))
            # The help stands behind the change of its age, which strikes one of an earlier age.
            self.assertEqual([told.rules for told in found], [rules if at == 0 else ((0, 1),) * (age > 0 and at >= age)
                                                              for at in range(3)])
        # Helps of one age are made in the order of the pool.
        turned = ("rule", 1, 0)
        self.assertEqual(helped_tongues(ages, [(0, rule), (0, turned)], (0, 1))[0].rules, ((0, 1),))
        self.assertEqual(helped_tongues(ages, [(0, turned), (0, rule)], (0, 1))[0].rules, ((1, 0),))
        self.assertEqual(helped_tongues(ages, [(0, turned), (0, rule)], (1,))[0].rules, ((0, 1),))

    def test_an_own_change_is_kept_out(self):
        ages = Ages(two_roles(), [("rule", 1, 0)])
        found = helped_tongues(ages, [(0, ("rule", 0, 1))], (0,))
        self.assertEqual([told.rules for told in found], [((0, 1),), ((0, 1),)])

    def test_pools_wrong(self):
        ages = Ages(nesting(), [("rule", 0, 1), ("strike", 0, 1)])
        right = (2, ("rule", 0, 3))
        for call in (lambda pool: least_helps(ages, pool), lambda pool: helped_tongues(ages, pool, "wrong")):
            for pool in ([], (), [right] * 6, [None] * 6, *STRANGE):
                refuses(self, BadHelp, {"index": 0, "what": "pool"}, call, pool)
            for entry in ((), (0,), (*right, 0), "ab" "c", *STRANGE):
                refuses(self, BadHelp, {"index": 0, "what": "help"}, call, [entry])
                refuses(self, BadHelp, {"index": 1, "what": "help"}, call, [right, entry, None])
            for age in (3, -1, 10 ** 40, "0", [0], *STRANGE):
                refuses(self, BadHelp, {"index": 1, "what": "age"}, call, [right, (age, right[1])])
                refuses(self, BadHelp, {"index": 0, "what": "age"}, call, [(age, None), None])
            wrong = [("strike", 0, 1), ("wear", ()), ("ending", 1, 1, "one", ("a",)), ("rule", 0, 0), ("rule", 0, 4),
                     ("rule", 0), ("article", 2, ()), ("article", 1, [(0, "one", "x")]), ("article", 1), (), *STRANGE]
            for change in wrong:
                refuses(self, BadHelp, {"index": 0, "what": "change"}, call, [(0, change)])
                refuses(self, BadHelp, {"index": 4, "what": "change"}, call, [right] * 4 + [(2, change)])

    def test_picks_wrong(self):
        ages = Ages(nesting(), [("rule", 0, 1)])
        pool = [(0, ("rule", 0, 3)), (1, ("article", 0, ()))]
        for pick in ([2], [-1], [0, 0], [1, 0], [0, 1, 2], [True], [0, True], ["0"], [[0]], *STRANGE):
            refuses(self, BadPick, {}, helped_tongues, ages, pool, pick)
        for pick in ([], (), [0], [1], (0, 1)):
            self.assertEqual(len(helped_tongues(ages, pool, pick)), 2)

    def test_nothing_changes(self):
        pool, pick = [[0, ["rule", 0, 1]], [1, ["article", 0, [[0, "one", "x"]]]]], [0]
        ages = Ages(two_roles(), [("wear", ())])
        helped_tongues(ages, pool, pick)
        least_helps(ages, pool)
        self.assertEqual((pool, pick), ([[0, ["rule", 0, 1]], [1, ["article", 0, [[0, "one", "x"]]]]], [0]))
        self.assertEqual(ages, Ages(two_roles(), [("wear", ())]))


class LeastTest(unittest.TestCase):
    def check(self, ages, pool):
        good, first = [], {}
        for pick in picks(len(pool)):
            unclear = [age for age, tongue in enumerate(walk_helped(ages, pool, pick)) if not is_clear(tongue)]
            good += [] if unclear else [pick]
            first[pick] = unclear[:1]
        least = [pick for pick in good if not any(set(other) < set(pick) for other in good)]
        lost = [pick for pick in picks(len(pool)) if not any(set(other) <= set(pick) for other in least)]
        found = least_helps(ages, listed(pool))
        self.assertEqual((type(found), found.least), (Helps, tuple(least)))
        self.assertEqual([row[:2] for row in found.losses], [(pick, *first[pick]) for pick in lost])
        for pick, age, exchange in found.losses:
            self.assertIsNone(exchange_fault(walk_helped(ages, pool, pick)[age], exchange))
        self.assertTrue(are_tuples((found.least, found.losses)))
        self.assertTrue(all(isinstance(row, tuple) and len(row) == 3 for row in found.losses))
        return good, least

    def test_against_all_picks(self):
        sizes = set()
        for ages, pool in some_pools(160, 182):
            good, least = self.check(ages, pool)
            sizes.add(min(len(least), 2))
            sizes.add(("longest", max([len(pick) for pick in least], default=None)))
        self.assertTrue(sizes >= {0, 1, ("longest", 0), ("longest", 1), ("longest", None)})

    def test_several_least_picks(self):
        ages = Ages(one_frame(words("aa aa bb", 3)), [("wear", [("b", "a")])])
        pool = [(0, ("rule", 0, 1)), (0, ("article", 0, [(0, "one", "x"), (0, "many", "x")])), (1, ("rule", 1, 2)),
                (1, ("rule", 0, 2)), (0, ("article", 0, [(2, "one", "y"), (2, "many", "y")]))]
        good, least = self.check(ages, pool)
        self.assertGreater(len(least), 2)
        self.assertIn(2, [len(pick) for pick in least])

    def test_a_good_pick_made_bad(self):
        """A rule that comes first keeps another one out, and with it what the other one would lead to."""
        ages = Ages(all_alike(2), [("strike", 1, 0)])
        pool = [(0, ("rule", 1, 0)), (0, ("rule", 0, 1))]
        good, least = self.check(ages, pool)
        self.assertEqual((good, least), ([(1,)], [(1,)]))
        self.assertEqual(least_helps(ages, pool).least, ((1,),))
        # () and (0,) are lost; (0, 1) has a least pick within it, though it is not good itself.
        self.assertEqual([row[:2] for row in least_helps(ages, pool).losses], [((), 0), ((0,), 1)])

    def test_the_empty_pick(self):
        ages = Ages(all_alike(2, [(0, 1)]), [("wear", ())])
        self.assertEqual(least_helps(ages, [(0, ("rule", 1, 0))]), Helps(((),), ()))

    def test_no_good_pick(self):
        ages = Ages(all_alike(2), ())
        found = least_helps(ages, [(0, ("article", 0, ()))])
        self.assertEqual((found.least, [row[:2] for row in found.losses]), ((), [((), 0), ((0,), 0)]))

    def test_articles_alone(self):
        """If no article finds four parts and no ending is put, more articles never spoil a good pick."""
        source = Random(183)
        met = set()
        for ages in some_ages(96, 184, 2, ("rule", "strike", "wear")):
            pool = tuple((source.randrange(len(ages)), change)
                         for change in some_changes(ages.tongue, source, 2, ("article",)))
            if max(len(ending) for tongue in walk_helped(ages, pool, (0, 1)) for stock in tongue.stocks
                   for row in stock.table for ending in row[1:]) >= 4:
                continue
            good, _ = self.check(ages, pool)
            for pick in picks(2):
                if any(set(small) <= set(pick) for small in good):
                    self.assertIn(pick, good)
            met.add(len(good))
        self.assertTrue(met >= {0, 4} and met & {1, 2, 3})

    def test_one_and_five_helps(self):
        ages = Ages(all_alike(3), ())
        pool = [(0, ("rule", 0, 1)), (0, ("rule", 1, 2)), (0, ("rule", 0, 2)), (0, ("rule", 2, 0)), (0, ("rule", 2, 1))]
        self.check(ages, pool[:1])
        good, least = self.check(ages, pool)
        self.assertTrue(all(first_exchange(walk_helped(ages, pool, pick)[0]) is None for pick in good))

    def test_result(self):
        made = Helps([1], {2: 3})
        self.assertEqual((made.least, made.losses), ([1], {2: 3}))
        self.assertNotEqual(made, Helps([1], {2: 4}))


if __name__ == "__main__":
    unittest.main()
