"""What is heard of one clause: things and the heard number."""

from looseorder.errors import BadPlaces, BadThings
from looseorder.names import NUMBERS, ending_from, in_tuples, is_among, is_ending, is_number, is_row, is_whole
from looseorder.patterns import check_pattern
from looseorder.tongues import check_frame, check_stock


def shown_of(tongue, frame, pattern):
    """The things and the heard number that are shown of a pattern."""
    return shown_things(tongue, frame, check_pattern(tongue, frame, pattern))


def shown_things(tongue, frame, pattern):
    """What shown_of returns, for a pattern that is right."""
    things = []
    for role, stock, number in pattern:
        if stock is None:
            things.append(None)
        else:
            things.append((stock, tongue.ending_at(stock, role, number)))
    return tuple(things), heard_number(tongue.frames[frame], pattern)


def heard_number(frame, pattern):
    """The number of the noun in the agreed role of a Frame, None if it has no such role."""
    for role, _, number in pattern:
        if role == frame.agreed:
            return number
    return None


def bearers(tongue, stock, ending):
    """The roles and numbers that the stock shows by the ending, or all of them if it is None."""
    check_stock(tongue, stock)
    told = None if ending is None else ending_from(ending)
    table = tongue.stocks[stock].table
    cells = [(row[0], number, shown) for row in table for number, shown in zip(NUMBERS, row[1:])]
    return tuple([(role, number) for role, number, shown in cells if told is None or told == shown])


def fits_agreement(frame, number):
    """Whether the number can be the heard number of a Frame."""
    return number is None if frame.agreed is None else is_number(number)


def check_things(tongue, frame, things, number):
    """The things that are heard of a frame, in tuples."""
    check_frame(tongue, frame)
    told = tongue.frames[frame]
    if not is_row(things, len(told.slots), len(told.slots)):
        raise BadThings(0, "many")
    has_clause = False
    for index, thing in enumerate(things):
        if thing is None:
            if told.clause is None or has_clause:
                raise BadThings(index, "clause")
            has_clause = True
        elif not _is_noun_thing(tongue, thing):
            raise BadThings(index, "thing")
    if told.clause is not None and not has_clause:
        raise BadThings(0, "clause")
    if not fits_agreement(told, number):
        raise BadThings(0, "number")
    return in_tuples(things)


def _is_noun_thing(tongue, thing):
    if not is_row(thing, 2, 2) or not is_whole(thing[0], 0, len(tongue.stocks) - 1):
        return False
    return thing[1] is None or is_ending(thing[1])


def noun_places(things):
    """The places of the nouns among things."""
    return [place for place, thing in enumerate(things) if thing is not None]


def check_places(places, nouns):
    """The places, told in ascending order, if each is one of those of the nouns."""
    if not is_row(places):
        raise BadPlaces()
    last = -1
    for place in places:
        check_place(place, nouns)
        if place <= last:
            raise BadPlaces()
        last = place
    return tuple(places)


def check_place(place, nouns):
    """The place, if it is one of those of the nouns."""
    if not is_among(place, nouns):
        raise BadPlaces()
    return place


def hide_endings(things, places):
    """The things with the endings of the nouns at the places swallowed."""
    told = check_places(places, noun_places(things))
    hidden = [(thing[0], None) if place in told else thing for place, thing in enumerate(things)]
    return in_tuples(hidden)
