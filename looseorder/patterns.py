"""Patterns of one clause, without stems and verb."""

from looseorder.errors import BadPattern
from looseorder.names import is_among, is_number, is_row, is_whole
from looseorder.rulings import first_row, rows_keeping
from looseorder.tongues import check_frame


def check_pattern(tongue, frame, pattern):
    """The pattern of a frame in tuples."""
    check_frame(tongue, frame)
    slots = tongue.frames[frame].slots
    if not is_row(pattern, len(slots), len(slots)):
        raise BadPattern(0, "many")
    met = []
    for index, entry in enumerate(pattern):
        what = _entry_fault(tongue, tongue.frames[frame], entry, met)
        if what is not None:
            raise BadPattern(index, what)
        met.append(entry[0])
    against = first_against(tongue, met)
    if against is not None:
        raise BadPattern(against, "rule")
    return tuple([tuple(entry) for entry in pattern])


def _entry_fault(tongue, frame, entry, met):
    if not is_row(entry, 3, 3):
        return "row"
    role, stock, number = entry
    if not is_among(role, frame.slots) or role in met:
        return "role"
    if role == frame.clause:
        if stock is not None:
            return "stock"
        return None if number is None else "number"
    if not is_whole(stock, 0, len(tongue.stocks) - 1) or role not in tongue.stocks[stock].borne:
        return "stock"
    return None if is_number(number) else "number"


def first_against(tongue, roles):
    """The place of the first role that is ahead of an earlier one, or None; no rule tells of a None."""
    for place, role in enumerate(roles):
        if any([tongue.is_ahead(role, earlier) for earlier in roles[:place]]):
            return place
    return None


def bearers_of_role(tongue, role):
    """The stocks that bear the role, ascending."""
    return [stock for stock, told in enumerate(tongue.stocks) if role in told.borne]


def rows_of_frame(tongue, frame):
    """All orders of a frame, ascending."""
    check_frame(tongue, frame)
    return rows_keeping(tongue.closure, tongue.frames[frame].slots)


def plain_pattern(tongue, frame):
    """The pattern with the least order, the first stocks that do, and "one" everywhere."""
    check_frame(tongue, frame)
    return filled_row(tongue, frame, first_row(tongue.closure, tongue.frames[frame].slots), ())


def filled_row(tongue, frame, row, told):
    """The pattern with this row of roles and the told entries, and the plainest entries for the other roles."""
    entries = {entry[0]: entry for entry in told}
    return tuple([entries.get(role, _plain_entry(tongue, frame, role)) for role in row])


def _plain_entry(tongue, frame, role):
    if role == tongue.frames[frame].clause:
        return role, None, None
    return role, bearers_of_role(tongue, role)[0], "one"


def row_of_roles(pattern):
    """The roles of a pattern in its order."""
    return tuple([entry[0] for entry in pattern])
