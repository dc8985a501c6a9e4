"""[9.5], [9.6]: changes of a tongue."""

import unittest
from random import Random

from looseorder.articles import with_article
from looseorder.changes import check_changes, make_changes
from looseorder.coincide import first_exchange
from looseorder.errors import BadChange
from looseorder.stocks import Stock
from looseorder.tongues import Tongue
from looseorder.wearing import Wear, wear_tongue
from support import (NUMBERS, STRANGE, all_alike, are_tuples, four_stocks, great, nesting, one_frame, refuses,
                     some_tongues, two_roles, walk_closure, words)

FORMS = [("rule", 0, 1), ("strike", 1, 0), ("ending", 1, 3, "many", ("q", "r")), ("wear", (("a", "b"), ("c", "c"))),
         ("article", 1, ((3, "many", "the"), (1, "one", "")))]


def some_changes(tongue, source, many, forms=("rule", "strike", "ending", "wear", "article")):
    """So many changes of these forms, the same ones in each run."""
    found = []
    roles = range(len(tongue.roles))
    while len(found) < many:
        form = source.choice(forms)
        stock = source.randrange(len(tongue.stocks))
        borne = tongue.stocks[stock].borne
        if form in ("rule", "strike") and len(roles) > 1:
            found.append((form, *source.sample(roles, 2)))
        elif form == "ending":
            found.append((form, stock, source.choice(borne), source.choice(NUMBERS), (source.choice("abc"),)))
        elif form == "wear":
            found.append((form, tuple((part, source.choice("abc")) for part in "ab" if source.random() < 0.6)))
        elif form == "article":
            cells = [(role, number) for role in borne for number in NUMBERS if source.random() < 0.5]
            found.append((form, stock, tuple((role, number, source.choice(["", "x", "y"])) for role, number in cells)))
    return tuple(found)


def walk_change(tongue, change):
    """The tongue behind one change, by the words of [9.6]."""
    rules, stocks = list(tongue.rules), [[list(row) for row in stock.table] for stock in tongue.stocks]
    if change[0] == "rule":
        if not any(a == b for a, b in walk_closure([*rules, change[1:]])):
            rules.append(change[1:])
    elif change[0] == "strike":
        rules = [rule for rule in rules if rule != change[1:]]
    elif change[0] == "ending":
        _, stock, role, number, ending = change
        for row in stocks[stock]:
            if row[0] == role:
                row[1 + NUMBERS.index(number)] = ending
    elif change[0] == "wear":
        lead = dict(change[1])
        stocks = [[(row[0], *[tuple(lead.get(part, part) for part in ending) for ending in row[1:]]) for row in table]
                  for table in stocks]
    elif all(len(ending) < 4 for row in stocks[change[1]] for ending in row[1:]):
        heads = {(row[0], row[1]): row[2] for row in change[2]}
        stocks[change[1]] = [(row[0], *[(heads.get((row[0], number), ""), *ending) for number, ending in
                                        zip(NUMBERS, row[1:])]) for row in stocks[change[1]]]
    told = [Stock(stock.name, table) for stock, table in zip(tongue.stocks, stocks)]
    return Tongue(tongue.roles, told, tongue.frames, rules, tongue.verbs)


def walk_changes(tongue, changes):
    for change in changes:
        tongue = walk_change(tongue, change)
    return tongue


def listed(thing):
    """The thing with lists in the place of its tuples."""
    return [listed(entry) for entry in thing] if isinstance(thing, (list, tuple)) else thing


class CheckTest(unittest.TestCase):
    def test_in_tuples_and_otherwise_as_told(self):
        tongue = nesting()
        for changes in ((), FORMS[:1], FORMS, FORMS * 12, [FORMS[3], FORMS[3]]):
            found = check_changes(tongue, listed(changes))
            self.assertEqual(found, tuple(changes))
            self.assertEqual(check_changes(tongue, tuple(changes)), tuple(changes))
            self.assertTrue(isinstance(found, tuple) and are_tuples(found))

    def test_many(self):
        tongue = nesting()
        for changes in (FORMS * 12 + FORMS[:1], [None] * 61, "rule", *STRANGE):
            refuses(self, BadChange, {"index": 0, "what": "many"}, check_changes, tongue, changes)
            refuses(self, BadChange, {"index": 0, "what": "many"}, make_changes, tongue, changes)
        self.assertEqual(len(check_changes(tongue, FORMS * 12)), 60)

    def fault(self, what, change, tongue=None):
        told = tongue or nesting()
        for call in (check_changes, make_changes):
            refuses(self, BadChange, {"index": 0, "what": what}, call, told, [change])
            refuses(self, BadChange, {"index": 2, "what": what}, call, told, [FORMS[0], FORMS[3], change, None])
            refuses(self, BadChange, {"index": 1, "what": what}, call, told, (listed(FORMS[4]), listed(change), change))

    def test_change(self):
        for change in ((), ("rule",), ("rule", 0), ("rule", 0, 1, 2), ("strike", 9), ("ending", 0, 0, "one"),
                       ("ending", 0, 0, "one", ("a",), 1), ("wear",), ("wear", (), ()), ("article", 9), ("Rule", 0, 1),
                       ("", 0, 1), ("rules", 0, 1), (["rule"], 0, 1), ("rule" "s",), "rule", "abc", (0, 1, 2),
                       *STRANGE):
            self.fault("change", change)
        for thing in STRANGE:
            self.fault("change", (thing, 0, 1))

    def test_role(self):
        for form in ("rule", "strike"):
            for thing in (4, -1, 10 ** 40, "0", [0], *STRANGE):
                self.fault("role", (form, thing, 1))
                self.fault("role", (form, 1, thing))
            for role in (0, 3):
                self.fault("role", (form, role, role))
        for role in (4, -1, 0, 2, 10 ** 40, "1", [1], *STRANGE):
            self.fault("role", ("ending", 1, role, "one", ("a",)))
            self.fault("role", ("ending", 1, role, "two", ()))

    def test_stock(self):
        for stock in (2, -1, 10 ** 40, "0", [0], *STRANGE):
            self.fault("stock", ("ending", stock, 0, "one", ("a",)))
            self.fault("stock", ("ending", stock, 9, "two", ()))
            self.fault("stock", ("article", stock, ()))
            self.fault("stock", ("article", stock, None))

    def test_number_and_ending(self):
        for number in ("two", 1, ["one"], *STRANGE):
            self.fault("number", ("ending", 1, 1, number, ("a",)))
            self.fault("number", ("ending", 1, 1, number, ()))
        for ending in ((), ("a",) * 5, ("aaaa",), ("A",), (1,), "a", *STRANGE):
            self.fault("ending", ("ending", 1, 1, "one", ending))

    def test_wear(self):
        for rows in (None, "ab", {}, [("a",)], [("a", "b", "c")], [("a", 1)], [("aaaa", "a")], [("a", "b"), ("a", "c")],
                     [("a", "a"), ("a", "a")], [None]):
            self.fault("wear", ("wear", rows))

    def test_article(self):
        right = (1, "one", "x")
        for rows in (None, "ab", {}, [right] * 13, [(1, "one")], [(0, "one", "x")], [(1, "two", "x")],
                     [(1, "one", "xxxx")], [right, right], [right, None]):
            self.fault("article", ("article", 1, rows))
        # An ending of four parts is no fault.
        tongue = one_frame([(0, ("a",) * 4, ("b",))])
        self.assertEqual(check_changes(tongue, [("article", 0, ())]), (("article", 0, ()),))

    def test_nothing_changes(self):
        tongue, changes = nesting(), listed(FORMS)
        found = check_changes(tongue, changes)
        make_changes(tongue, changes)
        self.assertEqual((tongue, changes), (nesting(), listed(FORMS)))
        changes[3][1].append(["z", "a"])
        changes[4][2][0][2] = "q"
        self.assertEqual(found, tuple(FORMS))


class MakeTest(unittest.TestCase):
    def test_one_after_another(self):
        source = Random(161)
        for tongue in [*some_tongues(40, 162), nesting(), four_stocks(), great(), all_alike(1)]:
            for many in (0, 1, 5, 12):
                changes = some_changes(tongue, source, many)
                self.assertEqual(make_changes(tongue, listed(changes)), walk_changes(tongue, changes))

    def test_sixty_changes(self):
        source = Random(163)
        for tongue in some_tongues(6, 164, 6):
            changes = some_changes(tongue, source, 60)
            self.assertEqual(make_changes(tongue, changes), walk_changes(tongue, changes))

    def test_rules_first(self):
        """Rules and strikes in their order and then the others in theirs lead to the same tongue."""
        source = Random(165)
        for tongue in [*some_tongues(40, 166), nesting(), four_stocks()]:
            changes = some_changes(tongue, source, 14)
            parted = sorted(changes, key=lambda change: change[0] not in ("rule", "strike"))
            self.assertEqual(make_changes(tongue, changes), make_changes(tongue, parted))

    def test_what_never_changes_clearness(self):
        source = Random(167)
        met = set()
        for tongue in [*some_tongues(150, 168, 3), all_alike(2), all_alike(2, [(0, 1)])]:
            for form in ("rule", "strike", "ending", "wear", "article"):
                for change in some_changes(tongue, source, 4, ("ending", form)):
                    before, behind = first_exchange(tongue), first_exchange(make_changes(tongue, [change]))
                    met.add((change[0], before is None, behind is None))
        for form in ("rule", "article"):
            self.assertNotIn((form, True, False), met)
            self.assertIn((form, False, True), met)
        for form in ("strike", "wear"):
            self.assertNotIn((form, False, True), met)
            self.assertIn((form, True, False), met)
        self.assertTrue({("ending", True, False), ("ending", False, True)} <= met)

    def test_rules(self):
        tongue = all_alike(3, [(0, 1), (1, 2)])
        self.assertEqual(make_changes(tongue, [("rule", 0, 2)]).rules, ((0, 1), (0, 2), (1, 2)))
        for ahead, behind in ((1, 0), (2, 1), (2, 0)):
            self.assertEqual(make_changes(tongue, [("rule", ahead, behind)]), tongue)
        self.assertEqual(make_changes(tongue, [("rule", 0, 1)]), tongue)
        # Only a told rule is struck, not one of the closure.
        self.assertEqual(make_changes(tongue, [("strike", 0, 2)]), tongue)
        self.assertEqual(make_changes(tongue, [("strike", 1, 0)]), tongue)
        self.assertEqual(make_changes(tongue, [("strike", 0, 1)]).rules, ((1, 2),))
        changes = [("rule", 2, 0), ("strike", 0, 1), ("rule", 2, 0), ("strike", 1, 2), ("rule", 2, 0), ("rule", 0, 1)]
        self.assertEqual(make_changes(tongue, changes).rules, ((0, 1), (2, 0)))

    def test_endings_wears_and_articles(self):
        tongue = two_roles()
        self.assertEqual(make_changes(tongue, [("ending", 0, 1, "many", ["q", ""])]),
                         tongue.with_ending(0, 1, "many", ("q", "")))
        rows = [("a", "s"), ("s", "t")]
        self.assertEqual(make_changes(tongue, [("wear", rows)]), wear_tongue(tongue, Wear(rows)))
        self.assertEqual(make_changes(tongue, [("wear", rows)] * 2), wear_tongue(tongue, Wear(rows).then(Wear(rows))))
        self.assertEqual(make_changes(tongue, [("wear", ())]), tongue)
        rows = [(1, "one", "q")]
        self.assertEqual(make_changes(tongue, [("article", 0, rows)]), with_article(tongue, 0, rows))

    def test_four_parts(self):
        tongue = one_frame(words("ab cd", 2))
        article = ("article", 0, ((0, "one", "x"),))
        three = make_changes(tongue, [article] * 3)
        self.assertEqual(three.ending_at(0, 0, "one"), ("x", "x", "x", "a"))
        self.assertEqual(make_changes(tongue, [article] * 4), three)
        self.assertEqual(make_changes(tongue, [article] * 60), three)
        # One ending of four parts keeps the article from the whole stock, but from no other stock.
        tongue = four_stocks().with_ending(0, 3, "one", ("a",) * 4)
        self.assertEqual(make_changes(tongue, [("article", 0, ())]), tongue)
        self.assertEqual(make_changes(tongue, [("article", 1, ())]), with_article(tongue, 1, ()))

    def test_no_change(self):
        for tongue in (two_roles(), great()):
            self.assertEqual(make_changes(tongue, ()), tongue)
            self.assertEqual(make_changes(tongue, []), tongue)


if __name__ == "__main__":
    unittest.main()
