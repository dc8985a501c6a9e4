"""Roles that are shown alike, and exchanges of two nouns that nobody hears."""

from looseorder.errors import BadExchange
from looseorder.names import NUMBERS, is_among, is_number, is_whole
from looseorder.patterns import bearers_of_role, filled_row, rows_of_frame
from looseorder.tongues import check_frame


class Exchange:
    """Two roles side by side that a stock shows alike in these numbers."""

    def __init__(self, frame, role, other, stock, number, mate):
        self.frame = frame
        self.role = role
        self.other = other
        self.stock = stock
        self.number = number
        self.mate = mate

    def __eq__(self, other):
        return (isinstance(other, Exchange) and self.frame == other.frame and self.role == other.role
                and self.other == other.other and self.stock == other.stock and self.number == other.number
                and self.mate == other.mate)


def couples_of(roles):
    """All couples of the ascending roles, the lesser one first, ascending."""
    return [(role, other) for at, role in enumerate(roles) for other in roles[at + 1:]]


def common_bearers(tongue, role, other):
    """The stocks that bear both roles, ascending."""
    return [stock for stock, told in enumerate(tongue.stocks) if role in told.borne and other in told.borne]


def are_shown_alike(tongue, stock, cell, mate):
    """Whether the stock, which bears both, shows two couples (role, number) by one ending."""
    return tongue.ending_at(stock, cell[0], cell[1]) == tongue.ending_at(stock, mate[0], mate[1])


def shown_alike(tongue, role, other):
    """All rows (stock, number, mate) for which the stock shows the two roles alike, ascending."""
    return alike_across(tongue, tongue, role, other)


def alike_across(one, other, role, goal):
    """All rows (stock, number, mate) for which one tongue shows the role as the other shows the goal, ascending."""
    found = []
    for stock in bearers_of_role(one, role):
        for number in NUMBERS:
            ending = one.ending_at(stock, role, number)
            found += [(stock, number, mate) for mate in NUMBERS if other.ending_at(stock, goal, mate) == ending]
    return found


def coinciding(tongue, frame):
    """All rows (role, other, stock, number, mate) of noun roles that are shown alike, in this order."""
    check_frame(tongue, frame)
    rows = []
    for role, other in couples_of(tongue.frames[frame].nouns):
        rows += [(role, other, *alike) for alike in shown_alike(tongue, role, other)]
    return tuple(rows)


def coinciding_couples(tongue, frame):
    """The couples of noun roles of the frame that coincide, ascending."""
    return tuple(sorted({(row[0], row[1]) for row in coinciding(tongue, frame)}))


def exchanges_of(tongue):
    """All exchanges, by frame, then in the order of coinciding."""
    for frame in range(len(tongue.frames)):
        for row in coinciding(tongue, frame):
            if tongue.are_beside(row[0], row[1]):
                yield Exchange(frame, *row)


def first_exchange(tongue):
    """The first exchange, or None if the tongue is clear."""
    for exchange in exchanges_of(tongue):
        return exchange
    return None


def clear_frames(tongue):
    """The frames without an exchange, ascending."""
    unclear = [exchange.frame for exchange in exchanges_of(tongue)]
    return tuple([frame for frame in range(len(tongue.frames)) if frame not in unclear])


def exchange_fault(tongue, exchange):
    """The first word that tells why this is no exchange of the tongue, or None."""
    if not isinstance(exchange, Exchange):
        return "kind"
    if not is_whole(exchange.frame, 0, len(tongue.frames) - 1):
        return "frame"
    role, other, stock = exchange.role, exchange.other, exchange.stock
    if not are_two_nouns(tongue.frames[exchange.frame], role, other):
        return "roles"
    if not is_among(stock, common_bearers(tongue, role, other)):
        return "stock"
    if not is_number(exchange.number) or not is_number(exchange.mate):
        return "numbers"
    if not are_shown_alike(tongue, stock, (role, exchange.number), (other, exchange.mate)):
        return "shown"
    return None if tongue.are_beside(role, other) else "order"


def are_two_nouns(frame, role, other):
    """Whether both are noun roles of a Frame, the lesser one first."""
    return is_among(role, frame.nouns) and is_among(other, frame.nouns) and role < other


def exchange_patterns(tongue, exchange):
    """Two patterns that are heard alike; the first has the role directly ahead of the other."""
    what = exchange_fault(tongue, exchange)
    if what is not None:
        raise BadExchange(what)
    one, other, _ = neighbours_exchanged(tongue, exchange)
    return one, other


def neighbours_exchanged(tongue, exchange):
    """Two patterns with the two nouns as neighbours, exchanged in the second, and the place of the first one."""
    frame, role, other = exchange.frame, exchange.role, exchange.other
    told = ((role, exchange.stock, exchange.number), (other, exchange.stock, exchange.mate))
    # Two roles side by side are neighbours in some order, so there is a first one.
    rows = [row for row in rows_of_frame(tongue, frame) if row.index(other) == row.index(role) + 1]
    at = rows[0].index(role)
    turned = (*rows[0][:at], other, role, *rows[0][at + 2:])
    return filled_row(tongue, frame, rows[0], told), filled_row(tongue, frame, turned, told), at
