"""The readings of one clause."""

from looseorder.errors import NoReading
from looseorder.rulings import rows_within
from looseorder.shown import bearers, check_place, check_things, noun_places


class Sure:
    """All readings have this role."""

    def __init__(self, role):
        self.role = role

    def __eq__(self, other):
        return isinstance(other, Sure) and self.role == other.role


class Two:
    """Two readings that differ."""

    def __init__(self, one, other):
        self.one = one
        self.other = other

    def __eq__(self, other):
        return isinstance(other, Two) and self.one == other.one and self.other == other.other


def choices_of(options):
    """All tuples with one of the options for each place, those of the last place going round first."""
    if len(options) == 0:
        yield ()
    else:
        behind = options[1:]
        for choice in options[0]:
            for rest in choices_of(behind):
                yield (choice, *rest)


def count_choices(options):
    """How many tuples choices_of gives."""
    many = 1
    for choices in options:
        many *= len(choices)
    return many


def first_choice(options):
    """The first tuple that choices_of gives."""
    return tuple([choices[0] for choices in options])


def entries_by_role(frame, thing, number, cells):
    """For each role that a thing of a Frame can have, its entries in a pattern.

    The cells are the couples (role, number) that a noun can have by its ending; the clause has none.
    """
    if thing is None:
        return {frame.clause: [(frame.clause, None, None)]}
    entries = {}
    for role, told_number in cells:
        if role in frame.nouns and (role != frame.agreed or told_number == number):
            entries.setdefault(role, []).append((role, thing[0], told_number))
    return entries


def _cells_of(tongue, thing):
    return () if thing is None else bearers(tongue, thing[0], thing[1])


def rows_read(tongue, frame, things, number):
    """The rows of roles of the readings, ascending, each with the entries that can stand at its places."""
    told = check_things(tongue, frame, things, number)
    heard_frame = tongue.frames[frame]
    entries = [entries_by_role(heard_frame, thing, number, _cells_of(tongue, thing)) for thing in told]
    rows = rows_within(tongue.closure, heard_frame.slots, entries)
    return [(row, [entries[place][role] for place, role in enumerate(row)]) for row in rows]


def flat_readings(tongue, frame, things, number):
    """All readings of the things and the heard number, by their rows of roles, then of numbers."""
    for _, options in rows_read(tongue, frame, things, number):
        yield from choices_of(options)


def count_flat(tongue, frame, things, number):
    """How many readings there are."""
    return sum([count_choices(options) for _, options in rows_read(tongue, frame, things, number)])


def role_rows(tongue, frame, things, number):
    """The unlike rows of roles of the readings, ascending."""
    return tuple([row for row, _ in rows_read(tongue, frame, things, number)])


def first_two(tongue, frame, things, number):
    """The first reading and the first one with another row of roles, or None."""
    rows = rows_read(tongue, frame, things, number)
    if len(rows) < 2:
        return None
    return Two(first_choice(rows[0][1]), first_choice(rows[1][1]))


def sure_role(tongue, frame, things, number, place):
    """The one role that the readings have at the place, or two readings that differ there."""
    rows = rows_read(tongue, frame, things, number)
    check_place(place, noun_places(things))
    if len(rows) == 0:
        raise NoReading()
    role = rows[0][0][place]
    for row, options in rows:
        if row[place] != role:
            return Two(first_choice(rows[0][1]), first_choice(options))
    return Sure(role)
