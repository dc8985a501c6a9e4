"""What a learner can tell from lessons, and what to ask next."""

from looseorder.coincide import Exchange, common_bearers, couples_of, first_exchange
from looseorder.flat import choices_of, entries_by_role
from looseorder.lessons import does_keep_book
from looseorder.names import LETTERS, NUMBERS
from looseorder.rulings import rows_keeping, rows_within
from looseorder.shown import bearers, check_things
from looseorder.tongues import check_frame, with_tables


class Doubt:
    """A tongue that fits the lessons, and an exchange of it."""

    def __init__(self, tongue, exchange):
        self.tongue = tongue
        self.exchange = exchange

    def __eq__(self, other):
        return isinstance(other, Doubt) and self.tongue == other.tongue and self.exchange == other.exchange


class Question:
    """A row to be asked, and how many of the books that fit it keeps and breaks."""

    def __init__(self, row, kept, broken):
        self.row = row
        self.kept = kept
        self.broken = broken

    def __eq__(self, other):
        return (isinstance(other, Question) and self.row == other.row and self.kept == other.kept
                and self.broken == other.broken)


def _known_cells(lessons):
    return {(stock, role, number): ending for stock, role, number, ending in lessons.known}


def meanings_of(lessons, frame, things, number):
    """All readings of the things and the heard number in some tongue that fits, in the order of readings."""
    told = check_things(lessons.tongue, frame, things, number)
    known = _known_cells(lessons)
    heard_frame = lessons.tongue.frames[frame]
    entries = [entries_by_role(heard_frame, thing, number, _cells_left(lessons.tongue, thing, known)) for thing in told]
    found = []
    for row in rows_within((), heard_frame.slots, entries):
        if any([does_keep_book(row, book) for book in lessons.books]):
            options = [entries[place][role] for place, role in enumerate(row)]
            found += list(choices_of(options))
    return tuple(found)


def _cells_left(tongue, thing, known):
    # The couples (role, number) of a noun for which no other ending is told.
    if thing is None:
        return ()
    stock, ending = thing
    return [(role, number) for role, number in bearers(tongue, stock, None)
            if ending is None or known.get((stock, role, number), ending) == ending]


def _filled_tongue(lessons, book, known):
    # The learner's tongue with this book and these cells; each other cell of a stock has an ending of its own.
    tables = []
    for stock, told in enumerate(lessons.tongue.stocks):
        taken = [known[cell] for cell in known if cell[0] == stock]
        fresh = [(letter,) for letter in LETTERS if (letter,) not in taken]
        table = []
        for role in told.borne:
            cells = [(stock, role, number) for number in NUMBERS]
            table.append((role, *[known[cell] if cell in known else fresh.pop(0) for cell in cells]))
        tables.append(table)
    return with_tables(lessons.tongue, tables).with_rules(book)


def can_be_clear(lessons):
    """A clear tongue that fits, or None."""
    known = _known_cells(lessons)
    # More rules leave fewer exchanges, so the longest books are tried first.
    for book in reversed(lessons.books):
        tongue = _filled_tongue(lessons, book, known)
        if first_exchange(tongue) is None:
            return tongue
    return None


def surely_clear(lessons):
    """A tongue that fits and is not clear with an exchange of it, or None."""
    known = _known_cells(lessons)
    for frame, told in enumerate(lessons.tongue.frames):
        for role, other in couples_of(told.nouns):
            beside = [book for book in lessons.books if (role, other) not in book and (other, role) not in book]
            joined = _first_joined(lessons.tongue, known, role, other)
            if len(beside) > 0 and joined is not None:
                alike, cells = joined
                return Doubt(_filled_tongue(lessons, beside[0], cells), Exchange(frame, role, other, *alike))
    return None


def _first_joined(tongue, known, role, other):
    # The first (stock, number, mate) in which the two roles are not told to be unlike, and the cells if they are alike.
    for stock in common_bearers(tongue, role, other):
        for number in NUMBERS:
            for mate in NUMBERS:
                cells = ((stock, role, number), (stock, other, mate))
                told = [known[cell] for cell in cells if cell in known]
                if len(told) < 2 or told[0] == told[1]:
                    return (stock, number, mate), _with_alike(known, cells, [*told, (LETTERS[0],)][0])
    return None


def _with_alike(known, cells, ending):
    joined = {cell: known[cell] for cell in known}
    for cell in cells:
        joined[cell] = ending
    return joined


def next_question(lessons, frame):
    """The row of the frame's slots that parts the books that fit best, the first of several."""
    check_frame(lessons.tongue, frame)
    many = len(lessons.books)
    best = None
    for row in rows_keeping((), lessons.tongue.frames[frame].slots):
        kept = len([book for book in lessons.books if does_keep_book(row, book)])
        if best is None or max(kept, many - kept) < max(best.kept, best.broken):
            best = Question(row, kept, many - kept)
    return best
