"""What stays sure of things and of a pattern when endings are swallowed."""

from looseorder.errors import NoReading
from looseorder.flat import role_rows
from looseorder.patterns import check_pattern
from looseorder.sayable import lots_of
from looseorder.shown import check_places, hide_endings, noun_places, shown_things


def sure_roles(tongue, frame, things, number):
    """For each thing the role that all readings give, or None."""
    rows = role_rows(tongue, frame, things, number)
    if len(rows) == 0:
        raise NoReading()
    return tuple([role if all([row[place] == role for row in rows]) else None
                  for place, role in enumerate(rows[0])])


def is_left_sure(tongue, frame, pattern, places):
    """Whether the roles of the pattern are sure with the endings at the places swallowed."""
    things, number = shown_things(tongue, frame, check_pattern(tongue, frame, pattern))
    told = check_places(places, noun_places(things))
    return len(role_rows(tongue, frame, hide_endings(things, told), number)) == 1


def most_swallowed(tongue, frame, pattern):
    """All lots of the most places that leave the pattern sure, ascending; () if none does."""
    things, number = shown_things(tongue, frame, check_pattern(tongue, frame, pattern))
    places = noun_places(things)
    lots = [lot for size in range(len(places) + 1) for lot in lots_of(places, size)
            if len(role_rows(tongue, frame, hide_endings(things, lot), number)) == 1]
    return tuple([lot for lot in lots if len(lot) == len(lots[-1])])
