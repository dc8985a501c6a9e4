"""All sayings of a frame with the same nouns."""

from looseorder.errors import BadClause, BadNouns
from looseorder.names import is_among, is_number, is_row, is_stem
from looseorder.patterns import bearers_of_role, rows_of_frame
from looseorder.sayings import PIECES_MOST, Saying
from looseorder.tongues import check_frame


def sayings_of(tongue, frame, nouns, inner=None):
    """All sayings with these nouns, by their rows of roles, then by the place of the verb."""
    items = _checked_items_by_role(tongue, frame, nouns, inner)
    for row in rows_of_frame(tongue, frame):
        for verb in _verb_places(tongue, len(row)):
            said = [items[role] for role in row]
            said.insert(verb, ("verb",))
            yield Saying(tongue, frame, said)


def count_sayings(tongue, frame):
    """How many such sayings there are, whatever the nouns."""
    rows = rows_of_frame(tongue, frame)
    return len(rows) * len(_verb_places(tongue, len(rows[0])))


def _verb_places(tongue, slots):
    places = {"first": [0], "last": [slots], "free": list(range(slots + 1))}
    return places[tongue.verbs]


def _checked_items_by_role(tongue, frame, nouns, inner):
    check_frame(tongue, frame)
    told = tongue.frames[frame]
    if not is_row(nouns, len(told.nouns), len(told.nouns)):
        raise BadNouns(0, "many")
    stocks = {}
    for index, role in enumerate(told.nouns):
        what = _row_fault(tongue, role, nouns[index], stocks)
        if what is not None:
            raise BadNouns(index, what)
        stocks[nouns[index][0]] = nouns[index][1]
    _check_inner(tongue, told, inner, stocks)
    items = {role: ("noun", row[0], row[1], role, row[2]) for role, row in zip(told.nouns, nouns)}
    if inner is not None:
        items[told.clause] = ("clause", told.clause, inner)
    return items


def _row_fault(tongue, role, row, stocks):
    if not is_row(row, 3, 3):
        return "row"
    stem, stock, number = row
    if not is_stem(stem):
        return "stem"
    if not is_among(stock, bearers_of_role(tongue, role)):
        return "stock"
    if not is_number(number):
        return "number"
    return None if stocks.get(stem, stock) == stock else "unlike"


def _check_inner(tongue, told, inner, stocks):
    if (inner is None) != (told.clause is None):
        raise BadClause()
    if inner is None:
        return
    if not isinstance(inner, Saying) or inner.tongue != tongue or inner.size + len(told.slots) > PIECES_MOST:
        raise BadClause()
    if any([stocks.get(noun[1], noun[2]) != noun[2] for noun in inner.noun_items()]):
        raise BadClause()
