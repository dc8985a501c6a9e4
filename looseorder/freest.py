"""The books of rules that make a tongue clear and leave the most orders."""

from looseorder.needed import all_coinciding
from looseorder.rulings import closure_of, does_keep, rows_keeping
from looseorder.tongues import check_frame


class Freest:
    """A book, and how many rows or orders it leaves."""

    def __init__(self, most, rules):
        self.most = most
        self.rules = rules

    def __eq__(self, other):
        return isinstance(other, Freest) and self.most == other.most and self.rules == other.rules


def _rows_by_book(tongue):
    # For each book that rows of all roles direct, how many rows do.
    couples = all_coinciding(tongue)
    many = {}
    for row in rows_keeping((), list(range(len(tongue.roles)))):
        book = tuple(sorted([couple if does_keep(row, [couple]) else (couple[1], couple[0]) for couple in couples]))
        many[book] = many.get(book, 0) + 1
    return many


def _first_of_most(many):
    most = max(list(many.values()))
    return Freest(most, min([book for book in many if many[book] == most]))


def freest(tongue):
    """The first of the books that the most rows of all roles direct, and how many these are."""
    return _first_of_most(_rows_by_book(tongue))


def freest_in(tongue, frame):
    """The first of the directed books with the most orders of the frame, and how many these are."""
    check_frame(tongue, frame)
    slots = tongue.frames[frame].slots
    return _first_of_most({book: len(rows_keeping(closure_of(book), slots)) for book in _rows_by_book(tongue)})
