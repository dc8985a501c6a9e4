"""Lessons, and what they leave of the books that a tongue can have."""

from looseorder.coincide import couples_of
from looseorder.errors import BadLesson, BadRow, LessonClash, NoBook
from looseorder.flat import choices_of
from looseorder.names import in_tuples, is_among, is_each_once, is_ending, is_number, is_row, is_whole, number_rank
from looseorder.needed import check_few_roles
from looseorder.orders import is_order
from looseorder.patterns import bearers_of_role, check_pattern, filled_row
from looseorder.rulings import does_keep, within
from looseorder.tongues import check_frame

LESSONS_MOST = 40


def lesson_of(tongue, frame, pattern):
    """The lesson that tells a pattern with its endings."""
    told = check_pattern(tongue, frame, pattern)
    return ("said", frame, tuple([(role, stock, number, _ending_of(tongue, role, stock, number))
                                  for role, stock, number in told]))


def _ending_of(tongue, role, stock, number):
    return None if stock is None else tongue.ending_at(stock, role, number)


def ask_teacher(tongue, frame, row):
    """The lesson that tells whether a row of the frame's slots is an order."""
    check_frame(tongue, frame)
    if not is_each_once(row, tongue.frames[frame].slots):
        raise BadRow()
    if not is_order(tongue, frame, row):
        return "wrong", frame, tuple(row)
    return lesson_of(tongue, frame, filled_row(tongue, frame, row, ()))


def closed_books(many):
    """All closed books over so many roles; shorter ones first, those of one length ascending."""
    couples = couples_of(list(range(many)))
    ways = [((), (couple,), ((couple[1], couple[0]),)) for couple in couples]
    books = []
    for choice in choices_of(ways):
        book = tuple(sorted([rule for rules in choice for rule in rules]))
        if _is_closed(book):
            books.append((len(book), book))
    return [book for _, book in sorted(books)]


def _is_closed(book):
    # Each couple stands one way round at most, so a book that is its own closure has no ring.
    return all([(ahead, last) in book for ahead, behind in book for role, last in book if role == behind])


def _check_lesson(tongue, index, lesson):
    what = _lesson_fault(tongue, lesson)
    if what is not None:
        raise BadLesson(index, what)


def _lesson_fault(tongue, lesson):
    if not is_row(lesson, 3, 3) or lesson[0] not in ("said", "wrong"):
        return "lesson"
    word, frame, rows = lesson
    if not is_whole(frame, 0, len(tongue.frames) - 1):
        return "frame"
    slots = tongue.frames[frame].slots
    if word == "wrong":
        return None if is_each_once(rows, slots) else "order"
    if not is_row(rows, len(slots), len(slots)):
        return "rows"
    met = []
    for row in rows:
        what = _row_fault(tongue, tongue.frames[frame], row, met)
        if what is not None:
            return what
        met.append(row[0])
    return None


def _row_fault(tongue, frame, row, met):
    if not is_row(row, 4, 4):
        return "row"
    role, stock, number, ending = row
    if not is_among(role, frame.slots) or role in met:
        return "role"
    is_clause = role == frame.clause
    if not (stock is None if is_clause else is_among(stock, bearers_of_role(tongue, role))):
        return "stock"
    if not (number is None if is_clause else is_number(number)):
        return "number"
    return None if (ending is None if is_clause else is_ending(ending)) else "ending"


def told_cells(lesson):
    """The couples (cell, ending) that a lesson tells."""
    rows = lesson[2] if lesson[0] == "said" else ()
    return [((stock, role, number), ending) for role, stock, number, ending in rows if stock is not None]


def _check_clashes(lessons):
    firsts = {}
    for second, lesson in enumerate(lessons):
        cells = told_cells(lesson)
        clashes = [firsts[cell][0] for cell, ending in cells if cell in firsts and firsts[cell][1] != ending]
        if len(clashes) > 0:
            raise LessonClash(min(clashes), second)
        for cell, ending in cells:
            firsts.setdefault(cell, (second, ending))


def does_keep_book(row, book):
    """Whether a row keeps those rules of a closed book both roles of which it has."""
    return does_keep(row, within(book, row))


def _does_book_fit(book, lesson):
    row = [entry[0] for entry in lesson[2]] if lesson[0] == "said" else lesson[2]
    return does_keep_book(row, book) == (lesson[0] == "said")


def _fitting_books(many, lessons):
    books = closed_books(many)
    for index, lesson in enumerate(lessons):
        books = [book for book in books if _does_book_fit(book, lesson)]
        if len(books) == 0:
            raise NoBook(index)
    return tuple(books)


class Lessons:
    """What a learner has been told of a tongue."""

    def __init__(self, tongue, rows):
        check_few_roles(tongue)
        if not is_row(rows, 0, LESSONS_MOST):
            raise BadLesson(0, "lessons")
        for index, lesson in enumerate(rows):
            _check_lesson(tongue, index, lesson)
        told = in_tuples(rows)
        _check_clashes(told)
        self._books = _fitting_books(len(tongue.roles), told)
        self.tongue = tongue
        self.rows = told

    def __eq__(self, other):
        return isinstance(other, Lessons) and self.tongue == other.tongue and self.rows == other.rows

    def __len__(self):
        return len(self.rows)

    @property
    def books(self):
        """All closed books that fit; shorter ones first, those of one length ascending."""
        return self._books

    @property
    def known(self):
        """All told rows (stock, role, number, ending), each once, by stock, role and number."""
        cells = {cell: ending for lesson in self.rows for cell, ending in told_cells(lesson)}
        ranked = sorted([(cell[0], cell[1], number_rank(cell[2]), cell) for cell in cells])
        return tuple([(*row[3], cells[row[3]]) for row in ranked])

    def with_lesson(self, lesson):
        """The lessons with one more at the end."""
        return Lessons(self.tongue, [*self.rows, lesson])


def does_fit(lessons, tongue):
    """Whether a tongue can be the one of which the lessons tell."""
    told = lessons.tongue
    if len(tongue.roles) != len(told.roles) or tongue.frames != told.frames:
        return False
    if [stock.borne for stock in tongue.stocks] != [stock.borne for stock in told.stocks]:
        return False
    if any([tongue.ending_at(stock, role, number) != ending for stock, role, number, ending in lessons.known]):
        return False
    return tongue.closure in lessons.books


def sure_rules(lessons):
    """The couples that are in every book that fits, ascending."""
    return tuple([rule for rule in lessons.books[0] if all([rule in book for book in lessons.books])])


def barred_rules(lessons):
    """The couples of unlike roles that are in no book that fits, ascending."""
    roles = list(range(len(lessons.tongue.roles)))
    rules = [(ahead, behind) for ahead in roles for behind in roles if ahead != behind]
    return tuple([rule for rule in rules if not any([rule in book for book in lessons.books])])
