"""Wishes: what a tongue is to grant, and why it does not."""

from looseorder.changes import is_form
from looseorder.closed import closed_ring
from looseorder.coincide import Exchange, exchange_fault, first_exchange
from looseorder.counts import check_counts
from looseorder.doubts import SameNumber, first_doubt, same_fault
from looseorder.errors import BadCounts, BadWish
from looseorder.names import in_tuples, is_each_once, is_row, is_whole
from looseorder.orders import how_many_orders
from looseorder.rings import ring_fault
from looseorder.safety import safe_orders
from looseorder.swallowing import HIDDEN_MOST, Swallowed, first_swallowed, swallowed_fault

WISHES_MOST = 6
LENGTHS = {"clear": 1, "wholly": 1, "swallowed": 2, "orders": 3, "endings": 3, "counts": 2, "safe": 4}


class Broken:
    """The place of a wish that is not granted, and why."""

    def __init__(self, index, why):
        self.index = index
        self.why = why

    def __eq__(self, other):
        return isinstance(other, Broken) and self.index == other.index and self.why == other.why


def check_wishes(tongue, wishes):
    """The wishes in tuples."""
    if not is_row(wishes, 1, WISHES_MOST):
        raise BadWish(0)
    for index, wish in enumerate(wishes):
        if not _is_wish(tongue, wish):
            raise BadWish(index)
    return in_tuples(wishes)


def _is_wish(tongue, wish):
    if not is_form(wish, dict(LENGTHS)):
        return False
    if wish[0] == "swallowed":
        return is_whole(wish[1], 0, HIDDEN_MOST)
    if wish[0] == "orders":
        return _is_frame(tongue, wish[1]) and is_whole(wish[2], 0)
    if wish[0] == "endings":
        return is_whole(wish[1], 0, len(tongue.stocks) - 1) and is_whole(wish[2], 0)
    if wish[0] == "counts":
        return _are_counts(tongue, wish[1])
    if wish[0] == "safe":
        is_habit = is_each_once(wish[1], list(range(len(tongue.roles))))
        return is_habit and _is_frame(tongue, wish[2]) and is_whole(wish[3], 0)
    return True


def _is_frame(tongue, thing):
    return is_whole(thing, 0, len(tongue.frames) - 1)


def _are_counts(tongue, thing):
    try:
        check_counts(tongue, thing)
    except BadCounts:
        return False
    return True


def broken_wish(tongue, wishes):
    """The first wish that is not granted, and why, or None."""
    for index, wish in enumerate(check_wishes(tongue, wishes)):
        why = _why_broken(tongue, wish)
        if why is not None:
            return Broken(index, why)
    return None


def _why_broken(tongue, wish):
    if wish[0] == "clear":
        return first_exchange(tongue)
    if wish[0] == "wholly":
        return first_doubt(tongue)
    if wish[0] == "swallowed":
        return first_swallowed(tongue, wish[1])
    if wish[0] == "counts":
        return closed_ring(tongue, wish[1])
    many = _count_wished(tongue, wish)
    is_granted = many <= wish[2] if wish[0] == "endings" else many >= wish[-1]
    return None if is_granted else many


def _count_wished(tongue, wish):
    if wish[0] == "orders":
        return how_many_orders(tongue, wish[1])
    if wish[0] == "endings":
        return len(tongue.stocks[wish[1]].endings)
    _, habit, frame, _ = wish
    return len(list(safe_orders(tongue, habit, frame)))


def broken_fault(tongue, wishes, broken):
    """The first word that tells why this wish is granted or broken otherwise, or None."""
    told = check_wishes(tongue, wishes)
    if not isinstance(broken, Broken):
        return "broken"
    if not is_whole(broken.index, 0, len(told) - 1):
        return "index"
    return None if _is_why(tongue, told[broken.index], broken.why) else "why"


def _is_why(tongue, wish, why):
    if wish[0] == "clear":
        return exchange_fault(tongue, why) is None
    if wish[0] == "wholly":
        return exchange_fault(tongue, why) is None or _is_right_same(tongue, why)
    if wish[0] == "swallowed":
        return _is_right_swallowed(tongue, why) and why.hidden <= wish[1]
    if wish[0] == "counts":
        return ring_fault(tongue, why, wish[1]) is None
    return is_whole(why) and why == _why_broken(tongue, wish)


def _is_right_same(tongue, why):
    return isinstance(why, SameNumber) and same_fault(tongue, why) is None


def _is_right_swallowed(tongue, why):
    if not isinstance(why, Swallowed) or not isinstance(why.exchange, Exchange):
        return False
    return swallowed_fault(tongue, why) is None
