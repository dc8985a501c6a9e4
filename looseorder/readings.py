"""Shapes and readings of heard rows."""

from looseorder.errors import NoReading
from looseorder.flat import Sure, Two, choices_of, count_choices, first_choice, rows_read
from looseorder.heard import check_heard, places_of_nouns, roles_heard
from looseorder.sayings import Saying
from looseorder.shown import check_place


def shapes_of(tongue, heard):
    """All shapes of a heard row, ascending."""
    return _shapes(tongue, check_heard(tongue, heard))


def _shapes(tongue, pieces):
    return tuple(sorted(_shapes_between(tongue, pieces, 0, len(pieces))))


def _shapes_between(tongue, pieces, first, behind):
    # The shapes of the pieces from first on, ahead of behind, with depths from 0.
    shapes = []
    if _is_clause(tongue, pieces, (first, behind), (behind, behind)):
        shapes.append((0,) * (behind - first))
    for start in range(first, behind):
        for end in range(start + 1, behind + 1):
            if _is_clause(tongue, pieces, (first, behind), (start, end)):
                ahead = [0] * (start - first)
                after = [0] * (behind - end)
                for inner in _shapes_between(tongue, pieces, start, end):
                    deeper = [depth + 1 for depth in inner]
                    shapes.append((*ahead, *deeper, *after))
    return shapes


def _is_clause(tongue, pieces, span, inner):
    # Whether the pieces of the span but for the inner span can be one clause around it.
    first, behind = span
    start, end = inner
    own = list(range(first, start)) + list(range(end, behind))
    verbs = [place for place in own if pieces[place][0] == "verb"]
    if len(verbs) != 1:
        return False
    frame = tongue.frames[pieces[verbs[0]][1]]
    if len(own) - 1 != len(frame.nouns) or (frame.clause is not None) != (start < end):
        return False
    must = {"first": first, "last": behind - 1, "free": verbs[0]}
    return verbs[0] == must[tongue.verbs]


def _places_at(shape, depth):
    # The places of the pieces of a clause, the first place of the clause within standing for it.
    own = [place for place, told in enumerate(shape) if told == depth]
    deeper = [place for place, told in enumerate(shape) if told > depth]
    return sorted(own + deeper[:1])


def _verb_at(pieces, shape, depth):
    verbs = [piece for piece, told in zip(pieces, shape) if told == depth and piece[0] == "verb"]
    return verbs[0]


def _rows_at(tongue, pieces, shape, depth):
    # What rows_read tells of the clause of this depth.
    things = []
    for place in _places_at(shape, depth):
        if shape[place] > depth:
            things.append(None)
        elif pieces[place][0] == "noun":
            things.append(pieces[place][2:])
    _, frame, number = _verb_at(pieces, shape, depth)
    return rows_read(tongue, frame, things, number)


def _read_shapes(tongue, pieces):
    # Each shape with a reading, and for each depth its rows of roles with their choices.
    read = []
    for shape in _shapes(tongue, pieces):
        clauses = [_rows_at(tongue, pieces, shape, depth) for depth in range(max(shape) + 1)]
        if all([len(rows) > 0 for rows in clauses]):
            read.append((shape, clauses))
    return read


def _saying_with(tongue, pieces, shape, patterns):
    # The reading with these patterns, that of the outermost clause first.
    saying = None
    for depth in reversed(range(len(patterns))):
        saying = _clause_with(tongue, pieces, shape, depth, patterns[depth], saying)
    return saying


def _clause_with(tongue, pieces, shape, depth, pattern, inner):
    items = []
    entries = list(pattern)
    for place in _places_at(shape, depth):
        if shape[place] > depth:
            items.append(("clause", entries.pop(0)[0], inner))
        elif pieces[place][0] == "verb":
            items.append(("verb",))
        else:
            role, stock, number = entries.pop(0)
            items.append(("noun", pieces[place][1], stock, role, number))
    return Saying(tongue, _verb_at(pieces, shape, depth)[1], items)


def readings_of(tongue, heard):
    """All readings of a heard row, by their shapes, then clause by clause, the outermost first."""
    pieces = check_heard(tongue, heard)
    for shape, clauses in _read_shapes(tongue, pieces):
        flat = [[pattern for _, options in rows for pattern in choices_of(options)] for rows in clauses]
        for patterns in choices_of(flat):
            yield _saying_with(tongue, pieces, shape, patterns)


def count_readings(tongue, heard):
    """How many readings a heard row has."""
    total = 0
    for _, clauses in _read_shapes(tongue, check_heard(tongue, heard)):
        many = 1
        for rows in clauses:
            many *= sum([count_choices(options) for _, options in rows])
        total += many
    return total


def _first_reading(tongue, pieces, shape, clauses):
    return _saying_with(tongue, pieces, shape, [first_choice(rows[0][1]) for rows in clauses])


def _first_with(tongue, pieces, shape, clauses, depth, row):
    # The first reading of the shape in which the clause of this depth has just this row of roles.
    only = [[row] if told == depth else rows for told, rows in enumerate(clauses)]
    return _first_reading(tongue, pieces, shape, only)


def two_readings(tongue, heard):
    """The first reading and the first one with other depths or roles, or None."""
    pieces = check_heard(tongue, heard)
    read = _read_shapes(tongue, pieces)
    if len(read) == 0:
        return None
    shape, clauses = read[0]
    one = _first_reading(tongue, pieces, shape, clauses)
    # The readings of the innermost clause go round first, so its rows are asked first.
    for depth in reversed(range(len(clauses))):
        if len(clauses[depth]) > 1:
            return Two(one, _first_with(tongue, pieces, shape, clauses, depth, clauses[depth][1]))
    if len(read) == 1:
        return None
    shape, clauses = read[1]
    return Two(one, _first_reading(tongue, pieces, shape, clauses))


def why_sure(tongue, heard, place):
    """The one role that the readings have at the place, or two readings that differ there."""
    pieces = check_heard(tongue, heard)
    check_place(place, places_of_nouns(pieces))
    read = _read_shapes(tongue, pieces)
    if len(read) == 0:
        raise NoReading()
    shape, clauses = read[0]
    one = _first_reading(tongue, pieces, shape, clauses)
    role = roles_heard(one)[place]
    for shape, clauses in read:
        at = _place_in_pattern(pieces, shape, place)
        for row in clauses[shape[place]]:
            if row[0][at] != role:
                return Two(one, _first_with(tongue, pieces, shape, clauses, shape[place], row))
    return Sure(role)


def _place_in_pattern(pieces, shape, place):
    # How many things of its clause stand ahead of a noun.
    depth = shape[place]
    ahead = [other for other in _places_at(shape, depth) if other < place]
    return len([other for other in ahead if shape[other] > depth or pieces[other][0] == "noun"])
