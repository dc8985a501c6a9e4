"""Swallowed endings: how many a tongue can lose and stay clear."""

from looseorder.coincide import (Exchange, are_shown_alike, are_two_nouns, common_bearers, couples_of, first_exchange,
                                 neighbours_exchanged)
from looseorder.errors import BadMany, BadSwallowed
from looseorder.names import NUMBERS, is_among, is_number, is_whole

HIDDEN_MOST = 5


class Swallowed:
    """An exchange that nobody hears if so many endings are swallowed."""

    def __init__(self, exchange, hidden):
        self.exchange = exchange
        self.hidden = hidden

    def __eq__(self, other):
        return isinstance(other, Swallowed) and self.exchange == other.exchange and self.hidden == other.hidden


def common_stocks(tongue, frame):
    """All rows (role, other, stock) of noun roles of the frame that the stock bears and no order parts."""
    couples = couples_of(tongue.frames[frame].nouns)
    return [(role, other, stock) for role, other in couples if tongue.are_beside(role, other)
            for stock in common_bearers(tongue, role, other)]


def swallowed_both(frame, role, other, stock):
    """The exchange of two nouns whose endings are both swallowed."""
    return Swallowed(Exchange(frame, role, other, stock, NUMBERS[0], NUMBERS[0]), 2)


def first_swallowed(tongue, hidden):
    """The first exchange that nobody hears with so many endings swallowed, or None."""
    if not is_whole(hidden, 0, HIDDEN_MOST):
        raise BadMany()
    if hidden < 2:
        exchange = first_exchange(tongue)
        return None if exchange is None else Swallowed(exchange, 0)
    for frame in range(len(tongue.frames)):
        for role, other, stock in common_stocks(tongue, frame):
            return swallowed_both(frame, role, other, stock)
    return None


def is_order_alone(tongue):
    """Whether order alone tells the roles of each frame that one stock bears."""
    return first_swallowed(tongue, HIDDEN_MOST) is None


def swallowed_fault(tongue, swallowed):
    """The first word that tells why the exchange is heard or is none, or None."""
    exchange, hidden = swallowed.exchange, swallowed.hidden
    if not is_whole(exchange.frame, 0, len(tongue.frames) - 1):
        return "frame"
    role, other, stock = exchange.role, exchange.other, exchange.stock
    if not are_two_nouns(tongue.frames[exchange.frame], role, other):
        return "role"
    if not is_among(stock, common_bearers(tongue, role, other)):
        return "stock"
    if not is_number(exchange.number) or not is_number(exchange.mate):
        return "number"
    if not tongue.are_beside(role, other):
        return "order"
    if not is_among(hidden, (0, 2)):
        return "hidden"
    alike = are_shown_alike(tongue, stock, (role, exchange.number), (other, exchange.mate))
    return None if hidden == 2 or alike else "shown"


def swallowed_patterns(tongue, swallowed):
    """Two patterns in which two neighbours are exchanged, and their places if these endings are swallowed."""
    what = swallowed_fault(tongue, swallowed)
    if what is not None:
        raise BadSwallowed(what)
    one, other, at = neighbours_exchanged(tongue, swallowed.exchange)
    return one, other, () if swallowed.hidden == 0 else (at, at + 1)
