"""Sayings: nouns with stems, verbs and clauses within clauses."""

from looseorder.errors import BadSaying
from looseorder.names import is_among, is_number, is_row, is_stem, is_whole
from looseorder.patterns import first_against
from looseorder.tongues import check_frame

PIECES_MOST = 14


def role_of_item(item):
    """The role of a noun or a clause, None for the verb."""
    if item[0] == "noun":
        return item[3]
    return item[1] if item[0] == "clause" else None


def nouns_of_item(item):
    """The nouns of an item as they are heard, those of a clause too."""
    if item[0] == "noun":
        return [item]
    return list(item[2].noun_items()) if item[0] == "clause" else []


def _noun_fault(tongue, frame, item):
    _, stem, stock, role, number = item
    if not is_stem(stem):
        return "stem"
    if not is_whole(stock, 0, len(tongue.stocks) - 1):
        return "stock"
    if not is_among(role, frame.nouns) or role not in tongue.stocks[stock].borne:
        return "role"
    return None if is_number(number) else "number"


def _clause_fault(tongue, frame, item):
    _, role, saying = item
    if not isinstance(saying, Saying) or saying.tongue != tongue:
        return "item"
    # A clause without a role is wrong even where the frame has no clause role.
    return None if is_whole(role) and role == frame.clause else "role"


def _item_fault(tongue, frame, item):
    if is_row(item, 5, 5) and item[0] == "noun":
        return _noun_fault(tongue, frame, item)
    if is_row(item, 3, 3) and item[0] == "clause":
        return _clause_fault(tongue, frame, item)
    return None if is_row(item, 1, 1) and item[0] == "verb" else "item"


def _checked_items(tongue, frame, said):
    many = len(frame.slots) + 1
    if not is_row(said, many, many):
        raise BadSaying(0, "items")
    met = []
    for place, item in enumerate(said):
        what = _item_fault(tongue, frame, item)
        if what is None and role_of_item(item) in met:
            what = "double"
        if what is not None:
            raise BadSaying(place, what)
        met.append(role_of_item(item))
    return tuple([tuple(item) for item in said])


def _check_order(tongue, said):
    roles = [role_of_item(item) for item in said]
    against = first_against(tongue, roles)
    if against is not None:
        raise BadSaying(against, "rule")
    verb = roles.index(None)
    must = {"first": 0, "last": len(said) - 1, "free": verb}
    if verb != must[tongue.verbs]:
        raise BadSaying(verb, "verb")


def _check_stems(said):
    stocks = {}
    for place, item in enumerate(said):
        for noun in nouns_of_item(item):
            if stocks.setdefault(noun[1], noun[2]) != noun[2]:
                raise BadSaying(place, "unlike")


def _inner_of(said):
    for item in said:
        if item[0] == "clause":
            return item[2]
    return None


class Saying:
    """A clause of a tongue, perhaps with a saying within."""

    def __init__(self, tongue, frame, said):
        check_frame(tongue, frame)
        items = _checked_items(tongue, tongue.frames[frame], said)
        _check_order(tongue, items)
        _check_stems(items)
        inner = _inner_of(items)
        self._inner = inner
        self._depth = 1 if inner is None else 1 + inner.depth
        self._size = len(items) if inner is None else len(items) - 1 + inner.size
        if self._size > PIECES_MOST:
            raise BadSaying(0, "long")
        self.tongue = tongue
        self.frame = frame
        self.said = items

    def __eq__(self, other):
        return (isinstance(other, Saying) and self.tongue == other.tongue and self.frame == other.frame
                and self.said == other.said)

    @property
    def depth(self):
        """How many clauses there are, each in the one before."""
        return self._depth

    @property
    def size(self):
        """How many nouns and verbs there are in all."""
        return self._size

    @property
    def inner(self):
        """The saying in the clause role, or None."""
        return self._inner

    def noun_items(self):
        """The noun items as they are heard, inner ones where their clause stands."""
        for item in self.said:
            yield from nouns_of_item(item)
