"""All that can be said and shown of a frame, and which roles are enough to know."""

from looseorder.errors import NoReading
from looseorder.flat import choices_of, role_rows
from looseorder.names import NUMBERS
from looseorder.patterns import bearers_of_role, row_of_roles, rows_of_frame
from looseorder.shown import noun_places, shown_things


class Most:
    """The greatest count of rows of roles, and the first that is shown and has so many."""

    def __init__(self, many, things, number):
        self.many = many
        self.things = things
        self.number = number

    def __eq__(self, other):
        return (isinstance(other, Most) and self.many == other.many and self.things == other.things
                and self.number == other.number)


def all_patterns(tongue, frame):
    """All patterns of a frame, by their rows of roles, then of stocks, then of numbers."""
    for row in rows_of_frame(tongue, frame):
        clause = tongue.frames[frame].clause
        stock_rows = [[None] if role == clause else bearers_of_role(tongue, role) for role in row]
        number_rows = [[None] if role == clause else NUMBERS for role in row]
        for stocks in choices_of(stock_rows):
            for numbers in choices_of(number_rows):
                yield tuple(zip(row, stocks, numbers))


def count_patterns(tongue, frame):
    """How many patterns a frame has."""
    many = len(rows_of_frame(tongue, frame))
    for role in tongue.frames[frame].nouns:
        many *= len(NUMBERS) * len(bearers_of_role(tongue, role))
    return many


def all_shown(tongue, frame):
    """All things and heard numbers that are shown of the patterns, each once, in their order."""
    met = set()
    for pattern in all_patterns(tongue, frame):
        shown = shown_things(tongue, frame, pattern)
        if shown not in met:
            met.add(shown)
            yield shown


def most_rows(tongue, frame):
    """The most rows of roles that what is shown of a pattern has."""
    rows = {}
    for pattern in all_patterns(tongue, frame):
        shown = shown_things(tongue, frame, pattern)
        # Each pattern is a reading of just what is shown of it, so this finds all readings.
        unlike = rows.setdefault(shown, {})
        unlike[row_of_roles(pattern)] = True
    many = max([len(unlike) for unlike in rows.values()])
    things, number = [shown for shown in rows if len(rows[shown]) == many][0]
    return Most(many, things, number)


def lots_of(places, size):
    """All lots of so many of the ascending places, ascending."""
    if size == 0:
        return [()]
    lots = []
    for at, place in enumerate(places):
        lots += [(place, *lot) for lot in lots_of(places[at + 1:], size - 1)]
    return lots


def _does_settle(rows, lot):
    return len({tuple([row[place] for place in lot]) for row in rows}) == len(rows)


def asking_lots(tongue, frame, things, number):
    """All lots of the fewest places of nouns whose roles, once known, leave one row of roles."""
    rows = role_rows(tongue, frame, things, number)
    if len(rows) == 0:
        raise NoReading()
    places = noun_places(things)
    size = 0
    while not any([_does_settle(rows, lot) for lot in lots_of(places, size)]):
        size += 1
    return tuple([lot for lot in lots_of(places, size) if _does_settle(rows, lot)])
