"""Roles whose number is not heard, and tongues in which all is heard."""

from looseorder.coincide import are_shown_alike, first_exchange
from looseorder.errors import BadSame, NoReading
from looseorder.flat import rows_read
from looseorder.names import NUMBERS, is_among, is_whole
from looseorder.patterns import bearers_of_role, filled_row
from looseorder.rulings import first_row
from looseorder.tongues import check_frame


class SameNumber:
    """A stock that shows a noun role alike in both numbers, which the verb does not tell either."""

    def __init__(self, frame, role, stock):
        self.frame = frame
        self.role = role
        self.stock = stock

    def __eq__(self, other):
        return (isinstance(other, SameNumber) and self.frame == other.frame and self.role == other.role
                and self.stock == other.stock)


def _shows_numbers_alike(tongue, stock, role):
    return are_shown_alike(tongue, stock, (role, NUMBERS[0]), (role, NUMBERS[1]))


def _doubtful_stocks(tongue, role):
    return [stock for stock in bearers_of_role(tongue, role) if _shows_numbers_alike(tongue, stock, role)]


def doubtful_roles(tongue, frame):
    """The noun roles of the frame that some stock shows alike in both numbers, ascending."""
    check_frame(tongue, frame)
    return tuple([role for role in tongue.frames[frame].nouns if len(_doubtful_stocks(tongue, role)) > 0])


def same_numbers(tongue):
    """All noun roles and stocks of frames whose number is not heard, by frame, role and stock."""
    return tuple([SameNumber(frame, role, stock) for frame, told in enumerate(tongue.frames)
                  for role in told.nouns if role != told.agreed for stock in _doubtful_stocks(tongue, role)])


def first_doubt(tongue):
    """The first exchange, else the first number that is not heard, or None if the tongue is wholly clear."""
    exchange = first_exchange(tongue)
    if exchange is not None:
        return exchange
    same = same_numbers(tongue)
    return None if len(same) == 0 else same[0]


def same_fault(tongue, same):
    """The first word that tells why the number is heard, or None."""
    if not is_whole(same.frame, 0, len(tongue.frames) - 1):
        return "frame"
    told = tongue.frames[same.frame]
    if not is_among(same.role, told.nouns) or same.role == told.agreed:
        return "role"
    if not is_among(same.stock, bearers_of_role(tongue, same.role)):
        return "stock"
    return None if _shows_numbers_alike(tongue, same.stock, same.role) else "shown"


def same_patterns(tongue, same):
    """Two patterns that are heard alike and differ in the number of one noun alone, "one" in the first."""
    what = same_fault(tongue, same)
    if what is not None:
        raise BadSame(what)
    row = first_row(tongue.closure, tongue.frames[same.frame].slots)
    return tuple([filled_row(tongue, same.frame, row, ((same.role, same.stock, number),)) for number in NUMBERS])


def told_numbers(tongue, frame, things, number):
    """For each thing the number that all readings give, or None; None for the clause too."""
    rows = rows_read(tongue, frame, things, number)
    if len(rows) == 0:
        raise NoReading()
    told = []
    for place in range(len(rows[0][0])):
        numbers = [entry[2] for _, options in rows for entry in options[place]]
        told.append(numbers[0] if numbers.count(numbers[0]) == len(numbers) else None)
    return tuple(told)
