"""[10.5] to [10.7]: what a learner can tell from lessons, and what to ask next."""

import unittest
from itertools import permutations, product
from random import Random

from looseorder.coincide import exchange_fault, first_exchange
from looseorder.errors import BadThings, NoFrame
from looseorder.frames import Frame
from looseorder.learning import (Doubt, Question, can_be_clear, meanings_of, next_question, surely_clear)
from looseorder.lessons import Lessons, ask_teacher, does_fit, lesson_of
from looseorder.stocks import Stock
from looseorder.tongues import Tongue
from support import (NUMBERS, STRANGE, all_alike, are_tuples, heard_things, keeps, nesting, numbers_in, one_frame,
                     refuses, roles_in, tiny, two_roles, walk_is_clear, walk_patterns, walk_readings, walk_shown,
                     words)
from test_lessons import BOOKS, keeps_lesson, some_lessons, taught


def is_clear(tongue):
    return all(walk_is_clear(tongue, frame) for frame in range(len(tongue.frames)))


def fitting_books(lessons):
    return [book for book in BOOKS[len(lessons.tongue.roles)] if all(keeps_lesson(book, row) for row in lessons.rows)]


def fitting_tongues(lessons, letters):
    """All tongues that fit, whose untold endings are of one of the letters or one of the told ones."""
    learner = lessons.tongue
    known = {row[:3]: row[3] for row in lessons.known}
    cells = [(stock, role, number) for stock, told in enumerate(learner.stocks) for role in told.borne
             for number in NUMBERS]
    some = sorted({*known.values(), *[(letter,) for letter in letters]})
    for endings in product(*[[known[cell]] if cell in known else some for cell in cells]):
        table = dict(zip(cells, endings))
        stocks = [Stock(told.name, [(role, *[table[stock, role, number] for number in NUMBERS]) for role in told.borne])
                  for stock, told in enumerate(learner.stocks)]
        for book in fitting_books(lessons):
            yield Tongue(learner.roles, stocks, learner.frames, book, learner.verbs)


def small():
    """Lessons over tongues of two roles, so that all tongues that fit can be walked."""
    source = Random(211)
    tongues = [one_frame(words(text, 2), rules, agreed) for text in ("ab ac", "aa bb", "ab cd", "ab ba") for rules in
               ((), [(0, 1)]) for agreed in (None, 1)]
    noun = Stock("n", [(0, ("a",), ("b",))])
    tongues.append(Tongue(["p", "q"], [noun, Stock("m", [(1, ("a",), ("b",))])],
                          [Frame("see", (0, 1)), Frame("go", (0,))]))
    tongues.append(Tongue(["p", "q"], [noun], [Frame("say", (0,), 1), Frame("go", (0,))], [(1, 0)]))
    for tongue in tongues:
        for many in (0, 1, 2, 4):
            yield Lessons(tongue, some_lessons(source, tongue, many)), tongue


class MeaningTest(unittest.TestCase):
    def by_the_words(self, lessons, frame, things, number):
        """All patterns with these stocks, the heard number, no other told ending, and a book that is kept."""
        learner = lessons.tongue
        told = learner.frames[frame]
        known = {row[:3]: row[3] for row in lessons.known}
        books = fitting_books(lessons)
        found = []
        for pattern in walk_patterns(learner.with_rules([]), frame):
            if [entry[1] for entry in pattern] != [thing and thing[0] for thing in things]:
                continue
            heard = [entry[2] for entry in pattern if told.agreed is not None and entry[0] == told.agreed]
            cells = [(entry[1], entry[0], entry[2]) for entry in pattern]
            clash = [cell for cell, thing in zip(cells, things) if thing is not None and thing[1] is not None
                     and known.get(cell, thing[1]) != thing[1]]
            if heard in ([], [number]) and not clash and any(keeps(book, roles_in(pattern)) for book in books):
                found.append(pattern)
        return tuple(sorted(found, key=lambda pattern: (roles_in(pattern), numbers_in(pattern))))

    def test_against_all_patterns(self):
        met = set()
        for lessons, tongue in taught(40, 212):
            for _, frame, things, number in list(heard_things([tongue], 5))[::3]:
                found = meanings_of(lessons, frame, [thing and list(thing) for thing in things], number)
                self.assertEqual(found, self.by_the_words(lessons, frame, things, number))
                self.assertTrue(are_tuples(found))
                self.assertTrue(set(walk_readings(tongue, frame, things, number)) <= set(found))
                met.add(min(len(found), 3))
        self.assertEqual(met, {1, 2, 3})

    def test_against_all_tongues(self):
        for lessons, tongue in small():
            for frame, told in enumerate(tongue.frames):
                nouns = len(told.nouns)
                for endings in product([("a",), ("b",), ("z",), None], repeat=nouns):
                    stocks = [[s for s in range(len(tongue.stocks))]] * nouns
                    for row in product(*stocks):
                        things = list(zip(row, endings))
                        things = things if told.clause is None else [*things, None]
                        self.check(lessons, frame, tuple(things), None if told.agreed is None else "many")

    def check(self, lessons, frame, things, number):
        some = set()
        for tongue in fitting_tongues(lessons, "abz"):
            some |= set(walk_readings(tongue, frame, things, number))
        found = meanings_of(lessons, frame, things, number)
        self.assertEqual(set(found), some)
        self.assertEqual(len(found), len(set(found)))

    def test_no_meaning(self):
        lessons = Lessons(two_roles(), [("said", 1, [(0, 0, number, ("a",))]) for number in NUMBERS])
        self.assertEqual(meanings_of(lessons, 1, [(0, ("b",))], None), ())
        self.assertEqual(meanings_of(lessons, 1, [(0, None)], None), (((0, 0, "one"),), ((0, 0, "many"),)))
        self.assertEqual(meanings_of(Lessons(two_roles(), ()), 1, [(0, ("b",))], None),
                         (((0, 0, "one"),), ((0, 0, "many"),)))

    def test_errors_in_their_order(self):
        lessons = Lessons(nesting(agreed=0), ())
        for frame in (4, -1, "0", *STRANGE):
            refuses(self, NoFrame, {"frame": frame}, meanings_of, lessons, frame, None, None)
        refuses(self, BadThings, {"index": 0, "what": "many"}, meanings_of, lessons, 0, [], "one")
        refuses(self, BadThings, {"index": 1, "what": "thing"}, meanings_of, lessons, 0, [None, (9, None), None], "one")
        refuses(self, BadThings, {"index": 1, "what": "clause"}, meanings_of, lessons, 0, [None, None, None], "one")
        refuses(self, BadThings, {"index": 0, "what": "number"}, meanings_of, lessons, 0,
                [None, (0, None), (0, None)], None)

    def test_nothing_changes(self):
        lessons, things = Lessons(two_roles(), ()), [[0, ["a"]], [0, None]]
        meanings_of(lessons, 0, things, None)
        self.assertEqual((lessons, things), (Lessons(two_roles(), ()), [[0, ["a"]], [0, None]]))


class ClearTest(unittest.TestCase):
    def test_against_all_tongues(self):
        """Enough letters: each cell can have an ending of its own, or that of any other."""
        met = set()
        for lessons, _ in small():
            tongues = [is_clear(tongue) for tongue in fitting_tongues(lessons, "wxyz")]
            self.check(lessons, any(tongues), all(tongues))
            met.add((any(tongues), all(tongues)))
        self.assertEqual(met, {(True, True), (True, False), (False, False)})

    def check(self, lessons, some, surely):
        clear = can_be_clear(lessons)
        self.assertEqual(clear is not None, some)
        if clear is not None:
            self.assertTrue(is_clear(clear))
            self.assertTrue(does_fit(lessons, clear))
        doubt = surely_clear(lessons)
        self.assertEqual(doubt is None, surely)
        if doubt is not None:
            self.assertIsInstance(doubt, Doubt)
            self.assertTrue(does_fit(lessons, doubt.tongue))
            self.assertIsNone(exchange_fault(doubt.tongue, doubt.exchange))

    def by_the_words(self, lessons):
        known = {row[:3]: row[3] for row in lessons.known}
        learner = lessons.tongue
        couples = [(a, b) for frame in learner.frames for a in frame.nouns for b in frame.nouns if a < b]
        told = {(a, b) for a, b in couples for s in range(len(learner.stocks)) for n in NUMBERS for m in NUMBERS
                if (s, a, n) in known and known.get((s, b, m)) == known[s, a, n]}
        can = {(a, b) for a, b in couples for s, stock in enumerate(learner.stocks) for n in NUMBERS for m in NUMBERS
               if a in stock.borne and b in stock.borne
               and ((s, a, n) not in known or known.get((s, b, m), known[s, a, n]) == known[s, a, n])}
        books = fitting_books(lessons)
        some = any(all((a, b) in book or (b, a) in book for a, b in told) for book in books)
        doubt = any((a, b) not in book and (b, a) not in book for a, b in can for book in books)
        return some, not doubt

    def test_by_the_words(self):
        met = set()
        for lessons, tongue in taught(120, 213, 12):
            some, surely = self.by_the_words(lessons)
            self.check(lessons, some, surely)
            met.add((some, surely))
        for lessons in self.special():
            some, surely = self.by_the_words(lessons)
            self.check(lessons, some, surely)
            met.add((some, surely))
        self.assertEqual(met, {(True, True), (True, False), (False, False)})

    def special(self):
        """All patterns of tongues told, and what the teacher answers to all rows."""
        for tongue in (all_alike(3, [(0, 1), (1, 2)]), all_alike(3, [(0, 1)]), one_frame(words("ab cd ef", 3)),
                       one_frame(words("ab cb de", 3), [(0, 1)]), two_roles(), two_roles([(1, 0)]), tiny("last", 0)):
            rows = [ask_teacher(tongue, frame, row) for frame, told in enumerate(tongue.frames)
                    for row in permutations(told.slots)]
            yield Lessons(tongue, rows)
            for frame in range(len(tongue.frames)):
                patterns = walk_patterns(tongue, frame)
                rows += [lesson_of(tongue, frame, pattern) for pattern in patterns[::max(1, len(patterns) // 10)]][:11]
            yield Lessons(tongue, rows[-40:])

    def test_told_endings_in_many_stocks(self):
        """All 26 letters told by other stocks leave each stock endings enough."""
        letters = "abcdefghijklmnopqrstuvwxyz"
        tables = [[(role, (letters[(8 * at + 2 * role) % 26],), (letters[(8 * at + 2 * role + 1) % 26],))
                   for role in range(4)]
                  for at in range(4)]
        tongue = Tongue(list("pqrs"), [Stock(name, table) for name, table in zip("nmop", tables)],
                        [Frame("give", (0, 1, 2, 3)), Frame("go", (3,))])
        rows = []
        for stock in range(4):
            for number in NUMBERS:
                rows.append(lesson_of(tongue, 0, [(role, stock, number) for role in range(4)]))
        for many in (0, 4, 6, 7, 8):
            lessons = Lessons(tongue, rows[:many])
            some, surely = self.by_the_words(lessons)
            self.check(lessons, some, surely)
        self.assertEqual((some, surely), (True, True))

    def test_results(self):
        self.assertEqual((Doubt(1, 2).tongue, Doubt(1, 2).exchange), (1, 2))
        self.assertEqual((Question(1, 2, 3).row, Question(1, 2, 3).kept, Question(1, 2, 3).broken), (1, 2, 3))

    def test_nothing_changes(self):
        lessons = Lessons(two_roles(), [("said", 1, [(0, 0, "one", ("a",))])])
        can_be_clear(lessons)
        surely_clear(lessons)
        next_question(lessons, 0)
        self.assertEqual(lessons, Lessons(two_roles(), [("said", 1, [(0, 0, "one", ("a",))])]))

    def test_the_tongue_that_teaches(self):
        for lessons, tongue in taught(40, 214):
            if first_exchange(tongue) is None:
                self.assertIsNotNone(can_be_clear(lessons))
            else:
                self.assertIsNotNone(surely_clear(lessons))


class QuestionTest(unittest.TestCase):
    def test_against_all_rows(self):
        met = set()
        for lessons, tongue in taught(60, 215, 5):
            books = fitting_books(lessons)
            for frame, told in enumerate(tongue.frames):
                rows = []
                for row in permutations(told.slots):
                    kept = sum(keeps(book, row) for book in books)
                    rows.append((max(kept, len(books) - kept), row, kept))
                _, row, kept = min(rows)
                found = next_question(lessons, frame)
                self.assertEqual(found, Question(row, kept, len(books) - kept))
                self.assertIsInstance(found.row, tuple)
                if len(told.slots) == len(tongue.roles) and len(books) > 1:
                    self.assertTrue(found.kept > 0 and found.broken > 0)
                met.add((found.kept > 0, found.broken > 0))
        self.assertEqual(met, {(True, True), (True, False)})

    def test_asking_on_finds_the_closure(self):
        for tongue in (all_alike(3, [(0, 1), (1, 2)]), all_alike(4, [(0, 2), (3, 2)]), all_alike(3)):
            lessons = Lessons(tongue, ())
            asked = 0
            while len(lessons.books) > 1:
                row = next_question(lessons, 0).row
                lessons = lessons.with_lesson(ask_teacher(tongue, 0, row))
                asked += 1
            self.assertEqual(lessons.books, (tongue.closure,))
            self.assertLess(asked, 24)

    def test_which(self):
        lessons = Lessons(two_roles(), ())
        # Of the books (), (0, 1) and (1, 0) either row keeps two.
        self.assertEqual(next_question(lessons, 0), Question((0, 1), 2, 1))
        self.assertEqual(next_question(lessons, 1), Question((0,), 3, 0))

    def test_wrong(self):
        for frame in (2, -1, "0", *STRANGE):
            refuses(self, NoFrame, {"frame": frame}, next_question, Lessons(two_roles(), ()), frame)

    def test_shown_by_the_teacher(self):
        tongue = nesting(agreed=1)
        pattern = walk_patterns(tongue, 0)[0]
        lessons = Lessons(tongue, [lesson_of(tongue, 0, pattern)])
        things, number = walk_shown(tongue, 0, pattern)
        self.assertIn(pattern, meanings_of(lessons, 0, things, number))


if __name__ == "__main__":
    unittest.main()
