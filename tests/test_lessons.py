"""[10.1] to [10.4]: lessons, and the books that fit them."""

import unittest
from itertools import combinations, permutations
from random import Random

from looseorder.errors import (BadLesson, BadPattern, BadRow, LessonClash, NoBook, NoFrame, TooManyRoles)
from looseorder.frames import Frame
from looseorder.lessons import Lessons, ask_teacher, barred_rules, does_fit, lesson_of, sure_rules
from looseorder.orders import orders_of
from looseorder.patterns import plain_pattern
from looseorder.stocks import Stock
from looseorder.tongues import Tongue
from support import (NUMBERS, STRANGE, Sayable, all_alike, are_tuples, great, keeps, nesting, one_frame, refuses,
                     some_tongues, table_of, two_roles, walk_closure, walk_orders, walk_patterns, words)
from test_changes import listed


def all_books(many):
    """All closed books, from all lots of couples; shorter ones first, those of one length ascending."""
    couples = [(a, b) for a in range(many) for b in range(many) if a != b]
    found = []
    for size in range(many * (many - 1) // 2 + 1):
        for book in combinations(couples, size):
            if walk_closure(book) == book:
                found.append(book)
    return found


BOOKS = {many: all_books(many) for many in (1, 2, 3, 4)}


def keeps_lesson(book, lesson):
    if lesson[0] == "said":
        return keeps(book, [row[0] for row in lesson[2]])
    return not keeps(book, lesson[2])


def some_lessons(source, tongue, many):
    """So many lessons of the tongue, asked and said."""
    found = []
    for _ in range(many):
        frame = source.randrange(len(tongue.frames))
        if source.random() < 0.4:
            row = list(tongue.frames[frame].slots)
            source.shuffle(row)
            found.append(ask_teacher(tongue, frame, row))
        else:
            found.append(lesson_of(tongue, frame, source.choice(walk_patterns(tongue, frame))))
    return tuple(found)


def taught(count, seed, most=6):
    """Lessons with the tongue of which they tell; the learner's tongue has no rules and other endings."""
    source = Random(seed)
    near = [two_roles([(0, 1)]), all_alike(3, [(0, 1)]), nesting(),
            one_frame(words("ab cd ef", 3), [(1, 0), (0, 2)], 1)]
    for tongue in some_tongues(count, seed, 4) + near * 3:
        rows = some_lessons(source, tongue, source.randint(0, most))
        stocks = [Stock(stock.name, [(role, ("q",), ("q",)) for role in stock.borne]) for stock in tongue.stocks]
        yield Lessons(Tongue(tongue.roles, stocks, tongue.frames, (), tongue.verbs), rows), tongue


class LessonTest(unittest.TestCase):
    def test_lesson_of(self):
        for tongue in [*some_tongues(25, 201), nesting("free", 1), great()]:
            for frame in range(len(tongue.frames)):
                patterns = walk_patterns(tongue, frame) if tongue != great() else [plain_pattern(tongue, frame)]
                for pattern in patterns[::7]:
                    found = lesson_of(tongue, frame, [list(entry) for entry in pattern])
                    rows = tuple((role, stock, number, None if stock is None else table_of(tongue, stock)[role, number])
                                 for role, stock, number in pattern)
                    self.assertEqual(found, ("said", frame, rows))
                    self.assertTrue(are_tuples(found))

    def test_ask_teacher(self):
        wrong = 0
        for tongue in [*some_tongues(25, 202), nesting("free", 1, [(2, 0), (1, 3)])]:
            for frame in range(len(tongue.frames)):
                for row in permutations(tongue.frames[frame].slots):
                    found = ask_teacher(tongue, frame, list(row))
                    if row not in list(orders_of(tongue, frame)):
                        self.assertEqual(found, ("wrong", frame, row))
                        wrong += 1
                        continue
                    first = [None if role == tongue.frames[frame].clause else
                             min(stock for stock in range(len(tongue.stocks))
                                 if (role, "one") in table_of(tongue, stock))
                             for role in row]
                    rows = [(role, None, None, None) if stock is None else
                            (role, stock, "one", table_of(tongue, stock)[role, "one"])
                            for role, stock in zip(row, first)]
                    self.assertEqual(found, ("said", frame, tuple(rows)))
                    self.assertTrue(are_tuples(found))
        self.assertGreater(wrong, 20)

    def test_errors_in_their_order(self):
        tongue = nesting(rules=[(0, 1)])
        for frame in (4, -1, "0", *STRANGE):
            refuses(self, NoFrame, {"frame": frame}, lesson_of, tongue, frame, None)
            refuses(self, NoFrame, {"frame": frame}, ask_teacher, tongue, frame, None)
        refuses(self, BadPattern, {"index": 0, "what": "many"}, lesson_of, tongue, 0, [])
        refuses(self, BadPattern, {"index": 1, "what": "rule"}, lesson_of, tongue, 0,
                [(1, 0, "one"), (0, 0, "one"), (2, None, None)])
        for row in ([], [0, 1], [0, 1, 1], [0, 1, 3], [0, 1, 2, 3], [0, 1, "2"], [0, True, 2], "012", *STRANGE):
            refuses(self, BadRow, {}, ask_teacher, tongue, 0, row)

    def test_nothing_changes(self):
        tongue, pattern, row = two_roles(), [[0, 0, "one"], [1, 0, "one"]], [1, 0]
        lesson_of(tongue, 0, pattern)
        ask_teacher(tongue, 0, row)
        self.assertEqual((tongue, pattern, row), (two_roles(), [[0, 0, "one"], [1, 0, "one"]], [1, 0]))


class LessonsTest(unittest.TestCase):
    def test_books_and_known(self):
        sizes = set()
        for lessons, tongue in taught(60, 203):
            many = len(tongue.roles)
            books = tuple(book for book in BOOKS[many] if all(keeps_lesson(book, lesson) for lesson in lessons.rows))
            self.assertEqual(lessons.books, books)
            self.assertIn(walk_closure(tongue.rules), books)
            known = {(row[1], row[0], NUMBERS.index(row[2])): row[3] for lesson in lessons.rows if lesson[0] == "said"
                     for row in lesson[2] if row[1] is not None}
            self.assertEqual(lessons.known, tuple((cell[0], cell[1], NUMBERS[cell[2]], known[cell])
                                                  for cell in sorted(known)))
            self.assertTrue(are_tuples((lessons.books, lessons.known, lessons.rows)))
            self.assertEqual(len(lessons), len(lessons.rows))
            sizes.add(len(books))
        self.assertTrue(len(sizes) > 8)

    def test_no_lesson(self):
        for many, count in ((1, 1), (2, 3), (3, 19), (4, 219)):
            lessons = Lessons(all_alike(many), ())
            self.assertEqual((len(lessons), len(lessons.books), lessons.known), (0, count, ()))
            self.assertEqual(lessons.books, tuple(BOOKS[many]))
            self.assertEqual(lessons, Lessons(all_alike(many), []))

    def test_the_learner_knows_neither_rules_nor_endings(self):
        tongue = two_roles([(0, 1)])
        lessons = Lessons(tongue, [("said", 0, [(1, 0, "one", ("z",)), (0, 0, "one", ("y",))])])
        self.assertEqual(lessons.books, ((), ((1, 0),)))
        self.assertEqual(lessons.known, ((0, 0, "one", ("y",)), (0, 1, "one", ("z",))))

    def test_kept_and_compared(self):
        rows = [["said", 1, [[0, 0, "one", ["a"]]]], ["wrong", 0, [1, 0]]]
        lessons = Lessons(two_roles(), rows)
        told = (("said", 1, ((0, 0, "one", ("a",)),)), ("wrong", 0, (1, 0)))
        self.assertEqual((lessons.tongue, lessons.rows), (two_roles(), told))
        rows[0][2][0][3][0] = "q"
        rows.pop()
        self.assertEqual(lessons.rows, told)
        self.assertEqual(lessons, Lessons(two_roles(), told))
        self.assertFalse(lessons != Lessons(two_roles(), told))
        for other in (Lessons(two_roles(), told[:1]), Lessons(two_roles(), told[::-1]),
                      Lessons(two_roles([(0, 1)]), told), None, told, Sayable()):
            self.assertNotEqual(lessons, other)
            self.assertFalse(lessons == other)

    def test_with_lesson(self):
        for lessons, tongue in taught(20, 204):
            for lesson in some_lessons(Random(205), tongue, 3):
                before = lessons.rows, lessons.books
                found = lessons.with_lesson(listed(lesson))
                self.assertEqual(found, Lessons(lessons.tongue, (*lessons.rows, lesson)))
                self.assertEqual((lessons.rows, lessons.books), before)

    def test_with_lesson_wrong(self):
        lessons = Lessons(two_roles(), [("said", 0, [(0, 0, "one", ("a",)), (1, 0, "one", ("b",))])])
        refuses(self, BadLesson, {"index": 1, "what": "frame"}, lessons.with_lesson, ("wrong", 2, (0, 1)))
        refuses(self, BadLesson, {"index": 1, "what": "lesson"}, lessons.with_lesson, None)
        refuses(self, LessonClash, {"first": 0, "second": 1}, lessons.with_lesson, ("said", 1, [(0, 0, "one", ("c",))]))
        refuses(self, NoBook, {"index": 1}, lessons.with_lesson, ("wrong", 0, (0, 1)))
        forty = Lessons(two_roles(), [("said", 1, [(0, 0, "one", ("a",))])] * 40)
        refuses(self, BadLesson, {"index": 0, "what": "lessons"}, forty.with_lesson, forty.rows[0])

    def test_forty_lessons(self):
        lesson = ("said", 1, [(0, 0, "one", ("a",))])
        self.assertEqual(len(Lessons(two_roles(), [lesson] * 40)), 40)
        refuses(self, BadLesson, {"index": 0, "what": "lessons"}, Lessons, two_roles(), [lesson] * 41)

    def test_four_roles_and_five(self):
        self.assertEqual(len(Lessons(nesting(), ())), 0)
        for rows in (None, (), [None]):
            refuses(self, TooManyRoles, {"most": 4}, Lessons, all_alike(5), rows)
            refuses(self, TooManyRoles, {"most": 4}, Lessons, great(), rows)


class WrongTest(unittest.TestCase):
    """Frame 0 of nesting: noun roles 0 and 1, clause role 2; stock 0 bears 0, 1 and 3, stock 1 bears 1 and 3."""

    RIGHT = (("wrong", 0, (0, 1, 2)), ("said", 0, ((2, None, None, None), (1, 1, "many", ("a", "s")),
                                                   (0, 0, "one", ("x",)))))

    def fault(self, what, lesson, *more):
        for at in (0, 1, 2):
            rows = [*self.RIGHT[:at], lesson, *more, None]
            refuses(self, BadLesson, {"index": at, "what": what}, Lessons, nesting(), rows)
            refuses(self, BadLesson, {"index": at, "what": what}, Lessons, nesting(), listed(rows))

    def put(self, row, at, thing):
        rows = [list(told) for told in self.RIGHT[1][2]]
        rows[row][at] = thing
        return ("said", 0, rows)

    def test_right(self):
        self.assertEqual(Lessons(nesting(), self.RIGHT).rows, self.RIGHT)
        self.assertEqual(Lessons(nesting(), listed(self.RIGHT)).rows, self.RIGHT)

    def test_lessons(self):
        for rows in ([None] * 41, "said", *STRANGE):
            refuses(self, BadLesson, {"index": 0, "what": "lessons"}, Lessons, nesting(), rows)

    def test_lesson(self):
        for lesson in ((), ("said",), ("said", 0), ("wrong", 9), ("said", 0, (), 1), ("told", 9, 9), (["said"], 0, ()),
                       ("saidwrong", 0, ()), "abc", *STRANGE):
            self.fault("lesson", lesson)
        for thing in STRANGE:
            self.fault("lesson", (thing, 0, ()))

    def test_frame(self):
        for frame in (4, -1, 10 ** 40, "0", [0], *STRANGE):
            self.fault("frame", ("said", frame, None))
            self.fault("frame", ("wrong", frame, (0, 1, 2)))

    def test_order(self):
        for row in ([], [0, 1], [0, 1, 1], [0, 1, 3], [0, 1, 2, 2], [0, 1, "2"], [0, True, 2], "012", *STRANGE):
            self.fault("order", ("wrong", 0, row))

    def test_rows(self):
        for rows in ([], self.RIGHT[1][2][:2], [*self.RIGHT[1][2], self.RIGHT[1][2][0]], "abc", *STRANGE):
            self.fault("rows", ("said", 0, rows))

    def test_row(self):
        for row in ((), (0, 0, "one"), (0, 0, "one", ("a",), 1), "abcd", *STRANGE):
            self.fault("row", ("said", 0, [*self.RIGHT[1][2][:2], row]))
            self.fault("row", ("said", 0, [row, (9, 9, 9, 9), None]))

    def test_role(self):
        for role in (3, 4, -1, 1, 2, 10 ** 40, "0", [0], *STRANGE):
            self.fault("role", self.put(2, 0, role))
        for role in (3, 4, -1, "0", *STRANGE):
            rows = [(role, 9, 9, 9), (9, 9, 9, 9), None]
            self.fault("role", ("said", 0, rows))
        # The rows are asked one by one, all words of one before the next.
        self.fault("ending", ("said", 0, [(0, 0, "one", ()), (0, 0, "one", ("x",)), (2, None, None, None)]))

    def test_stock(self):
        for stock in (2, -1, 10 ** 40, "0", [0], *STRANGE):
            self.fault("stock", self.put(2, 1, stock))
            self.fault("stock", ("said", 0, [(0, stock, "two", ()), None, None]))
        self.fault("stock", self.put(2, 1, 1))
        for thing in (0, "x", False, []):
            self.fault("stock", self.put(0, 1, thing))
        self.fault("stock", ("said", 0, [(2, 0, "one", ("a",)), None, None]))

    def test_number(self):
        for number in ("two", 1, ["one"], *STRANGE):
            self.fault("number", self.put(1, 2, number))
            self.fault("number", ("said", 0, [(0, 0, number, ()), None, None]))
        for thing in ("one", 0, False, []):
            self.fault("number", self.put(0, 2, thing))

    def test_ending(self):
        for ending in ((), ("a",) * 5, ("aaaa",), "a", (1,), *STRANGE):
            self.fault("ending", self.put(1, 3, ending))
        for thing in (("a",), "", 0, False, []):
            self.fault("ending", self.put(0, 3, thing))

    def test_clashes(self):
        def said(role, ending, number="one"):
            return ("said", 2 if role == 0 else 3, [(role, 0, number, (ending,)), *[(2, None, None, None)] * role])

        tongue = nesting()
        for rows, first, second in (
                ([said(0, "a"), said(0, "b")], 0, 1), ([said(0, "a"), said(0, "a"), said(0, "b"), said(0, "c")], 0, 2),
                ([said(1, "x"), said(0, "a"), said(1, "x"), said(0, "b"), said(1, "y")], 1, 3),
                ([said(1, "x"), said(0, "a"), said(1, "y"), said(0, "b")], 0, 2)):
            refuses(self, LessonClash, {"first": first, "second": second}, Lessons, tongue, rows)
        # Of two cells that clash in one lesson, the one that was told first.
        both = ("said", 0, [(0, 0, "one", ("b",)), (1, 0, "one", ("y",)), (2, None, None, None)])
        refuses(self, LessonClash, {"first": 0, "second": 2}, Lessons, tongue, [said(1, "x"), said(0, "a"), both])
        refuses(self, LessonClash, {"first": 0, "second": 2}, Lessons, tongue, [said(0, "a"), said(1, "x"), both])
        # Unlike numbers and unlike stocks are unlike cells.
        other = ("said", 3, [(1, 1, "one", ("z",)), (2, None, None, None)])
        self.assertEqual(len(Lessons(tongue, [said(0, "a"), said(0, "b", "many"), said(1, "x"), other])), 4)

    def test_no_book(self):
        tongue = two_roles()
        see = ("said", 0, [(0, 0, "one", ("a",)), (1, 0, "one", ("b",))])
        for rows, index in (([("wrong", 1, (0,))], 0), ([see, ("wrong", 0, (0, 1))], 1),
                            ([("wrong", 0, (0, 1)), ("wrong", 0, (1, 0))], 1),
                            ([("wrong", 0, (0, 1)), ("wrong", 0, (0, 1)), see, ("wrong", 1, (0,))], 2)):
            refuses(self, NoBook, {"index": index}, Lessons, tongue, rows)

    def test_errors_in_their_order(self):
        tongue = two_roles()
        go, other, none = [("said", 1, [(0, 0, "one", (part,))]) for part in "ab"] + [("wrong", 1, (0,))]
        refuses(self, BadLesson, {"index": 3, "what": "frame"}, Lessons, tongue, [none, go, other, ("said", 2, ())])
        refuses(self, LessonClash, {"first": 1, "second": 2}, Lessons, tongue, [none, go, other])
        refuses(self, NoBook, {"index": 0}, Lessons, tongue, [none, go, go])

    def test_nothing_changes(self):
        tongue, rows = nesting(), listed(self.RIGHT)
        lessons = Lessons(tongue, rows)
        sure_rules(lessons)
        barred_rules(lessons)
        does_fit(lessons, tongue)
        self.assertEqual((tongue, rows), (nesting(), listed(self.RIGHT)))


class FitTest(unittest.TestCase):
    def test_fits(self):
        kinds = set()
        for lessons, tongue in taught(60, 206):
            self.assertIs(does_fit(lessons, tongue), True)
            for book in BOOKS[len(tongue.roles)][::9]:
                fits = all(keeps_lesson(book, lesson) for lesson in lessons.rows)
                self.assertIs(does_fit(lessons, tongue.with_rules(book)), fits)
                kinds.add(fits)
            for stock, told in enumerate(tongue.stocks):
                for role in told.borne:
                    for number in NUMBERS:
                        known = (stock, role, number) in [row[:3] for row in lessons.known]
                        self.assertIs(does_fit(lessons, tongue.with_ending(stock, role, number, ("zzz",))), not known)
        self.assertEqual(kinds, {True, False})

    def test_what_the_learner_knows(self):
        tongue = nesting(agreed=0)
        lessons = Lessons(tongue, ())
        renamed = Tongue(["x", "y", "z", "w"], tongue.stocks, tongue.frames, [(3, 2), (2, 0)], "free")
        self.assertTrue(does_fit(lessons, renamed))
        names = [Stock(name, stock.table) for name, stock in zip(("p", "q"), tongue.stocks)]
        self.assertTrue(does_fit(lessons, Tongue(tongue.roles, names, tongue.frames)))
        self.assertFalse(does_fit(lessons, Tongue([*tongue.roles, "more"], tongue.stocks, tongue.frames)))
        self.assertFalse(does_fit(lessons, Tongue(tongue.roles, tongue.stocks[:1], tongue.frames)))
        self.assertFalse(does_fit(lessons, Tongue(tongue.roles, tongue.stocks[::-1], tongue.frames)))
        self.assertFalse(does_fit(lessons, tongue.with_stock(1, [(1, ("a",), ("b",))])))
        self.assertFalse(does_fit(lessons, nesting()))
        self.assertFalse(does_fit(lessons, Tongue(tongue.roles, tongue.stocks, tongue.frames[:3])))
        frames = [*tongue.frames[:3], Frame("feel", (1,), 2)]
        self.assertFalse(does_fit(lessons, Tongue(tongue.roles, tongue.stocks, frames)))

    def test_the_closure_fits(self):
        lessons = Lessons(all_alike(3), [("wrong", 0, (2, 1, 0)), ("wrong", 0, (2, 0, 1))])
        self.assertTrue(does_fit(lessons, all_alike(3, [(0, 1), (1, 2)])))
        self.assertFalse(does_fit(lessons, all_alike(3, [(0, 1)])))


class RulesTest(unittest.TestCase):
    def test_sure_and_barred(self):
        met = set()
        for lessons, tongue in taught(80, 207):
            many = len(tongue.roles)
            books = [book for book in BOOKS[many] if all(keeps_lesson(book, lesson) for lesson in lessons.rows)]
            couples = [(a, b) for a in range(many) for b in range(many) if a != b]
            sure = tuple(rule for rule in couples if all(rule in book for book in books))
            barred = tuple(rule for rule in couples if not any(rule in book for book in books))
            self.assertEqual((sure_rules(lessons), barred_rules(lessons)), (sure, barred))
            met.add((len(sure) > 0, len(barred) > 0))
            if all(lesson[0] == "said" for lesson in lessons.rows):
                ahead = {(m, r) for lesson in lessons.rows for m in [row[0] for row in lesson[2]]
                         for r in [row[0] for row in lesson[2]]
                         if [row[0] for row in lesson[2]].index(m) < [row[0] for row in lesson[2]].index(r)}
                self.assertEqual(sure, ())
                self.assertEqual(set(barred), {(r, m) for m, r in ahead})
        self.assertEqual(met, {(True, True), (False, True), (False, False)})

    def test_which(self):
        lessons = Lessons(all_alike(3), [("wrong", 0, (0, 1, 2)), ("wrong", 0, (0, 2, 1)), ("wrong", 0, (2, 0, 1))])
        self.assertEqual(sure_rules(lessons), ((1, 0),))
        self.assertEqual(barred_rules(lessons), ((0, 1),))
        self.assertEqual(sure_rules(Lessons(all_alike(1), ())), ())
        self.assertEqual(barred_rules(Lessons(all_alike(1), ())), ())


class TeacherTest(unittest.TestCase):
    def test_asking_all_rows_leaves_what_the_orders_tell(self):
        for tongue in (all_alike(3, [(0, 1), (1, 2)]), all_alike(3, [(2, 0)]), nesting(rules=[(0, 2)])):
            lessons = Lessons(tongue, ())
            for row in permutations(tongue.frames[0].slots):
                lessons = lessons.with_lesson(ask_teacher(tongue, 0, row))
            for book in lessons.books:
                self.assertEqual(walk_orders(tongue.with_rules(book), 0), walk_orders(tongue, 0))


if __name__ == "__main__":
    unittest.main()
