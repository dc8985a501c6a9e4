"""Lots of roles whose endings are swallowed, which the hearer knows."""

from looseorder.chains import check_lot
from looseorder.coincide import Exchange, shown_alike
from looseorder.flat import flat_readings
from looseorder.patterns import check_pattern
from looseorder.sayable import lots_of
from looseorder.shown import check_things, hide_endings, shown_things
from looseorder.swallowing import Swallowed, common_stocks, swallowed_both


def lot_readings(tongue, frame, things, number, lot):
    """The readings with a role of the lot at each swallowed noun, and at no other one."""
    told = check_things(tongue, frame, things, number)
    roles = check_lot(tongue, lot)
    for pattern in flat_readings(tongue, frame, told, number):
        if _does_swallow(told, pattern, roles):
            yield pattern


def _does_swallow(things, pattern, roles):
    nouns = [(thing, entry[0]) for thing, entry in zip(things, pattern) if thing is not None]
    return all([(thing[1] is None) == (role in roles) for thing, role in nouns])


def swallow_lot(tongue, frame, pattern, lot):
    """The things of the pattern with the endings of the nouns in the lot swallowed."""
    told = check_pattern(tongue, frame, pattern)
    roles = check_lot(tongue, lot)
    things, _ = shown_things(tongue, frame, told)
    places = [place for place, entry in enumerate(told) if entry[0] in roles and entry[1] is not None]
    return hide_endings(things, places)


def first_in_lot(tongue, lot):
    """The first exchange that nobody hears with the lot swallowed, or None if the lot is clear."""
    roles = check_lot(tongue, lot)
    for frame in range(len(tongue.frames)):
        for role, other, stock in common_stocks(tongue, frame):
            if role in roles and other in roles:
                return swallowed_both(frame, role, other, stock)
            if role not in roles and other not in roles:
                for bearing, number, mate in shown_alike(tongue, role, other):
                    if bearing == stock:
                        return Swallowed(Exchange(frame, role, other, stock, number, mate), 0)
    return None


def greatest_lots(tongue):
    """All clear lots of the greatest size, of noun roles of some frame, ascending; () if no lot is clear."""
    nouns = sorted({role for frame in tongue.frames for role in frame.nouns})
    lots = [lot for size in range(len(nouns) + 1) for lot in lots_of(nouns, size)
            if first_in_lot(tongue, lot) is None]
    return tuple([lot for lot in lots if len(lot) == len(lots[-1])])
