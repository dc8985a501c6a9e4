"""Habits of hearers: which of several readings is taken."""

from looseorder.blocks import blocks_of, chain_of, span_of
from looseorder.errors import BadHabit, Nothing
from looseorder.flat import choices_of, first_choice, rows_read
from looseorder.heard import check_heard, heard_of
from looseorder.names import is_each_once, is_whole
from looseorder.nested import heard_in_block
from looseorder.sayings import Saying
from looseorder.speaking import has_same_roles


def check_habit(tongue, habit):
    """The habit, a row of all roles, each once, as a tuple."""
    if not is_each_once(habit, list(range(len(tongue.roles)))):
        raise BadHabit()
    return tuple(habit)


def rank_of_row(habit, row):
    """The places of the roles of a row in the habit; a row is ahead of those with a greater rank."""
    return [habit.index(role) for role in row]


def is_row_ahead(habit, row, other):
    """Whether a row is ahead of another one of the same slots by the habit."""
    return rank_of_row(habit, row) < rank_of_row(habit, other)


def _ranked_rows(habit, rows):
    # What rows_read tells, the row that is ahead of all others first; no two ranks are equal.
    return sorted([(rank_of_row(habit, row), options) for row, options in rows])


def taken_pattern(tongue, habit, frame, things, number):
    """The reading that is taken for the things and the heard number."""
    told = check_habit(tongue, habit)
    rows = _ranked_rows(told, rows_read(tongue, frame, things, number))
    if len(rows) == 0:
        raise Nothing()
    return first_choice(rows[0][1])


def habit_sorted(tongue, habit, frame, things, number):
    """All readings, each ahead of all that would be taken after it."""
    told = check_habit(tongue, habit)
    rows = _ranked_rows(told, rows_read(tongue, frame, things, number))
    return tuple([pattern for _, options in rows for pattern in choices_of(options)])


def taken(tongue, habit, heard):
    """The saying that is taken for a heard row, block by block."""
    told = check_habit(tongue, habit)
    pieces = check_heard(tongue, heard)
    saying = None
    for block in reversed(chain_of(blocks_of(tongue, pieces))):
        things, number = heard_in_block(pieces, block)
        pattern = taken_pattern(tongue, told, block[0], things, number)
        saying = Saying(tongue, block[0], _items_in_block(pieces, block, pattern, saying))
    return saying


def _items_in_block(pieces, block, pattern, inner):
    _, verb, things = block
    items = []
    ahead = 0
    for thing, (role, stock, number) in zip(things, pattern):
        if is_whole(thing):
            items.append(("noun", pieces[thing][1], stock, role, number))
            first = thing
        else:
            items.append(("clause", role, inner))
            first, _ = span_of(thing)
        if first < verb:
            ahead += 1
    items.insert(ahead, ("verb",))
    return items


def is_understood(tongue, habit, saying):
    """Whether what is taken for a saying has its roles."""
    return has_same_roles(saying, taken(tongue, habit, heard_of(saying)))
