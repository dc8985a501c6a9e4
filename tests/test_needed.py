"""[4.7], [4.9]: the fewest rules that make a tongue clear, all such books, and rules that are needless."""

import unittest
from itertools import combinations, permutations

from looseorder.errors import NotClear, TooManyRoles, TooManyRules
from looseorder.needed import (Needed, all_coinciding, all_least_books, book_fault, fewest_kept, needless_rules,
                               rules_needed)
from support import (STRANGE, all_alike, are_tuples, four_stocks, great, nesting, one_frame, refuses, some_tongues,
                     table_of, two_roles, walk_closure, walk_is_clear, words)


def tongues():
    return some_tongues(40, 47) + [two_roles(), nesting(), four_stocks(), four_stocks([(0, 3)]), all_alike(1),
                                   all_alike(4, [(0, 1)]), one_frame(words("ab ba cd dc", 4)),
                                   one_frame(words("ab bc cd de", 4), [(3, 0)])]


def walk_coinciding(tongue):
    """All couples that some stock shows by one ending in some frame."""
    found = set()
    for stock in range(len(tongue.stocks)):
        cells = table_of(tongue, stock).items()
        found |= {(a[0], b[0]) for a, one in cells for b, other in cells if a[0] < b[0] and one == other
                  and any(a[0] in frame.nouns and b[0] in frame.nouns for frame in tongue.frames)}
    return sorted(found)


def makes_clear(couples, book):
    """Whether a book has no ring and puts each of the couples in order."""
    closure = walk_closure(book)
    return all(a != b for a, b in closure) and all((a, b) in closure or (b, a) in closure for a, b in couples)


def walk_least(tongue):
    """All books of the fewest rules that make the tongue clear, from all books by their size."""
    couples = walk_coinciding(tongue)
    rules = list(permutations(range(len(tongue.roles)), 2))
    size = 0
    while True:
        found = [book for book in combinations(rules, size) if makes_clear(couples, book)]
        if found:
            return found
        size += 1


class CoincidingTest(unittest.TestCase):
    def test_against_all_stocks(self):
        for tongue in tongues() + [great()]:
            self.assertEqual(all_coinciding(tongue), tuple(walk_coinciding(tongue)))
            self.assertTrue(are_tuples(all_coinciding(tongue)))

    def test_in_order_or_not(self):
        self.assertEqual(all_coinciding(all_alike(3, [(2, 1), (1, 0)])), ((0, 1), (0, 2), (1, 2)))

    def test_couples_of_unlike_frames(self):
        self.assertEqual(all_coinciding(nesting()), ((0, 1), (1, 3)))
        self.assertEqual(all_coinciding(all_alike(1)), ())


class NeededTest(unittest.TestCase):
    def test_least(self):
        for tongue in tongues():
            found = rules_needed(tongue)
            self.assertIs(type(found), Needed)
            self.assertTrue(are_tuples(found.rules))
            least = walk_least(tongue)
            self.assertEqual(found.least, len(least[0]))
            self.assertEqual(len(found.rules), found.least)
            self.assertIn(found.rules, least)
            self.assertIsNone(book_fault(tongue, found.rules))

    def test_each_role_and_the_next_greater_one_of_its_part(self):
        # 0 and 3, 3 and 1 hang together; so do 2 and 4.
        tongue = one_frame([(0, ("a",), ("b",)), (1, ("c",), ("d",)), (2, ("e",), ("f",)), (3, ("a",), ("c",)),
                            (4, ("e",), ("g",))])
        self.assertEqual(all_coinciding(tongue), ((0, 3), (1, 3), (2, 4)))
        found = rules_needed(tongue)
        self.assertEqual((found.least, found.rules), (3, ((0, 1), (1, 3), (2, 4))))

    def test_parts_that_lie_between_each_other(self):
        tongue = one_frame(words("ab cd ae cf ag", 5))
        self.assertEqual(rules_needed(tongue), Needed(3, ((0, 2), (1, 3), (2, 4))))

    def test_parts_that_come_together_late(self):
        # 0 and 1 coincide, 2 and 3 do, and last 1 and 3.
        table = [(0, ("a",), ("b",)), (1, ("a",), ("c",)), (2, ("d",), ("e",)), (3, ("d",), ("c",))]
        self.assertEqual(rules_needed(one_frame(table)), Needed(3, ((0, 1), (1, 2), (2, 3))))

    def test_rules_now_do_not_matter(self):
        for tongue in tongues():
            self.assertEqual(rules_needed(tongue), rules_needed(tongue.with_rules([])))

    def test_edges(self):
        self.assertEqual(rules_needed(all_alike(1)), Needed(0, ()))
        self.assertEqual(rules_needed(all_alike(5)), Needed(4, ((0, 1), (1, 2), (2, 3), (3, 4))))
        self.assertEqual(rules_needed(one_frame(words("ab cd ef", 3))), Needed(0, ()))


class BookFaultTest(unittest.TestCase):
    def test_words(self):
        tongue = all_alike(3)
        for book in (*STRANGE, [(0, 1)] * 31, [(0, 3)], [(0, 0)], [(0, True)], [(0, 1), (1, 0)], [(0, 1, 2)], [0]):
            self.assertEqual(book_fault(tongue, book), "book", book)
        for book in ((), [(0, 1)], [(0, 1), (0, 2)], ((0, 1), (2, 1))):
            self.assertEqual(book_fault(tongue, book), "clear", book)
        for book in ([(0, 1), (1, 2), (0, 2)], ((2, 1), (1, 0), (2, 0))):
            self.assertEqual(book_fault(tongue, book), "many", book)
        for book in ([(0, 1), (1, 2)], ((1, 2), (0, 1)), [[2, 0], [0, 1]], [(0, 1), (1, 2), (0, 1), [1, 2]]):
            self.assertIsNone(book_fault(tongue, book), book)

    def test_the_book_stands_in_the_place_of_the_rules(self):
        tongue = all_alike(3, [(0, 1), (1, 2)])
        self.assertEqual(book_fault(tongue, []), "clear")
        self.assertIsNone(book_fault(tongue, [(1, 0), (0, 2)]))

    def test_two_faults(self):
        tongue = one_frame(words("ab ab cd ef", 4))
        self.assertEqual(book_fault(tongue, [(0, 0), (0, 2)]), "book")
        self.assertEqual(book_fault(tongue, [(0, 2), (0, 3)]), "clear")
        self.assertEqual(book_fault(tongue, [(0, 1), (0, 3)]), "many")
        self.assertEqual(book_fault(one_frame(words("ab cd", 2)), [(0, 1)]), "many")

    def test_nothing_changes(self):
        tongue, book = all_alike(3), [[1, 2], [0, 1]]
        book_fault(tongue, book)
        self.assertEqual((tongue, book), (all_alike(3), [[1, 2], [0, 1]]))


class LeastBooksTest(unittest.TestCase):
    def test_all(self):
        for tongue in tongues():
            found = list(all_least_books(tongue))
            self.assertEqual(found, walk_least(tongue))
            self.assertEqual(found, sorted(found))
            self.assertTrue(are_tuples(tuple(found)))
            for book in found[:3] + found[-3:]:
                self.assertIsNone(book_fault(tongue, book))
                told = tongue.with_rules(book)
                if len(tongue.roles) < 4:
                    self.assertTrue(all(walk_is_clear(told, frame) for frame in range(len(told.frames))))

    def test_just_the_books_without_a_fault(self):
        for tongue in (all_alike(3, [(0, 1)]), two_roles(), one_frame(words("ab ba cd", 3)), all_alike(1)):
            rules = list(permutations(range(len(tongue.roles)), 2))
            books = [book for size in range(len(rules) + 1) for book in combinations(rules, size)]
            self.assertEqual(list(all_least_books(tongue)),
                             sorted(book for book in books if book_fault(tongue, book) is None))

    def test_edges(self):
        self.assertEqual(list(all_least_books(all_alike(1))), [()])
        self.assertEqual(list(all_least_books(two_roles())), [((0, 1),), ((1, 0),)])
        self.assertEqual(len(list(all_least_books(all_alike(4)))), 24)

    def test_too_many_roles(self):
        for tongue in (all_alike(5), great()):
            refuses(self, TooManyRoles, {"most": 4}, lambda told: list(all_least_books(told)), tongue)


class StruckTest(unittest.TestCase):
    def test_needless_rules(self):
        for tongue in self.clear_tongues():
            couples = walk_coinciding(tongue)
            told = tuple(rule for rule in tongue.rules
                         if makes_clear(couples, [other for other in tongue.rules if other != rule]))
            self.assertEqual(needless_rules(tongue), told)
            self.assertTrue(are_tuples(needless_rules(tongue)))

    def test_fewest_kept(self):
        for tongue in self.clear_tongues():
            couples = walk_coinciding(tongue)
            books = [book for size in range(len(tongue.rules) + 1) for book in combinations(tongue.rules, size)
                     if makes_clear(couples, book)]
            self.assertEqual(fewest_kept(tongue), books[0])
            self.assertTrue(are_tuples(fewest_kept(tongue)))

    def clear_tongues(self):
        found = [tongue for tongue in some_tongues(120, 49) if makes_clear(walk_coinciding(tongue), tongue.rules)]
        self.assertGreater(len(found), 20)
        chain = [(0, 1), (1, 2), (0, 2), (2, 3), (0, 3)]
        return found + [all_alike(4, chain), all_alike(3, chain[:3]), two_roles([(1, 0)]), all_alike(1),
                        one_frame(words("ab ab cd ef", 4), chain), one_frame(words("ab cd ab ef", 4), chain)]

    def test_plain(self):
        tongue = all_alike(3, [(0, 1), (1, 2), (0, 2)])
        self.assertEqual(needless_rules(tongue), ((0, 2),))
        self.assertEqual(fewest_kept(tongue), ((0, 1), (1, 2)))
        # Either way to 2 is enough, so each of these rules can be struck alone.
        tongue = one_frame(words("ab cd ab ef", 4), [(0, 1), (1, 2), (0, 3), (3, 2)])
        self.assertEqual(needless_rules(tongue), tongue.rules)
        self.assertEqual(fewest_kept(tongue), ((0, 1), (1, 2)))
        self.assertEqual((needless_rules(all_alike(1)), fewest_kept(all_alike(1))), ((), ()))

    def test_not_clear(self):
        nine = [(a, b) for a, b in combinations(range(5), 2) if (a, b) != (0, 1)]
        for tongue in (two_roles(), all_alike(3, [(0, 1)]), all_alike(5, nine)):
            refuses(self, NotClear, {}, needless_rules, tongue)
            refuses(self, NotClear, {}, fewest_kept, tongue)

    def test_too_many_rules(self):
        rules = list(combinations(range(5), 2))
        eight = [rule for rule in rules if rule not in ((0, 4), (0, 2))]
        nine = [rule for rule in rules if rule != (0, 4)]
        self.assertEqual(fewest_kept(all_alike(5, eight)), ((0, 1), (1, 2), (2, 3), (3, 4)))
        for told in (nine, rules):
            refuses(self, TooManyRules, {"most": 8}, fewest_kept, all_alike(5, told))
            self.assertEqual(len(needless_rules(all_alike(5, told))), len(told) - 4)


if __name__ == "__main__":
    unittest.main()
