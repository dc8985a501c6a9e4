"""The orders of a frame, and ways from one to another by exchanges of neighbours."""

from looseorder.coincide import couples_of
from looseorder.errors import NoOrder
from looseorder.names import is_each_once, is_row, is_whole
from looseorder.patterns import rows_of_frame
from looseorder.rulings import does_keep, within
from looseorder.tongues import check_frame


def orders_of(tongue, frame):
    """All orders of a frame, ascending."""
    yield from rows_of_frame(tongue, frame)


def how_many_orders(tongue, frame):
    """How many orders a frame has."""
    return len(rows_of_frame(tongue, frame))


def check_order(tongue, frame, order):
    """The order of a frame as a tuple."""
    check_frame(tongue, frame)
    if not is_order(tongue, frame, order):
        raise NoOrder()
    return tuple(order)


def is_order(tongue, frame, thing):
    """Whether the thing is a sequence that is an order of the frame."""
    slots = tongue.frames[frame].slots
    return is_each_once(thing, slots) and does_keep(thing, within(tongue.closure, slots))


def order_place(tongue, frame, order):
    """The place of an order among all orders of the frame."""
    return rows_of_frame(tongue, frame).index(check_order(tongue, frame, order))


def order_at(tongue, frame, place):
    """The order at a place among all orders of the frame."""
    rows = rows_of_frame(tongue, frame)
    if not is_whole(place, 0, len(rows) - 1):
        raise NoOrder()
    return rows[place]


def couples_apart(tongue, frame, one, other):
    """The couples of roles, the lesser one first, that two orders put otherwise, ascending."""
    first = check_order(tongue, frame, one)
    second = check_order(tongue, frame, other)
    couples = couples_of(tongue.frames[frame].slots)
    return tuple([couple for couple in couples if does_keep(first, [couple]) != does_keep(second, [couple])])


def way_of_orders(tongue, frame, one, other):
    """Orders that lead from one to the other by the fewest exchanges of neighbours."""
    way = [check_order(tongue, frame, one)]
    goal = check_order(tongue, frame, other)
    while way[-1] != goal:
        way.append(_step_nearer(way[-1], goal))
    return tuple(way)


def _step_nearer(order, goal):
    # Neighbours that the goal puts otherwise are side by side, so each step is an order again.
    places = [at for at in range(len(order) - 1) if goal.index(order[at]) > goal.index(order[at + 1])]
    return _with_neighbours_exchanged(order, places[0])


def _with_neighbours_exchanged(order, at):
    return (*order[:at], order[at + 1], order[at], *order[at + 2:])


def _is_step(order, behind):
    return any([_with_neighbours_exchanged(order, at) == behind for at in range(len(order) - 1)])


def order_way_fault(tongue, frame, one, other, way):
    """The first word that tells why this is no way of fewest exchanges, or None."""
    apart = couples_apart(tongue, frame, one, other)
    if not is_row(way, 1) or not is_order(tongue, frame, way[0]) or tuple(way[0]) != tuple(one):
        return "begin"
    before = tuple(one)
    for thing in way[1:]:
        if not is_order(tongue, frame, thing):
            return "order"
        if not _is_step(before, tuple(thing)):
            return "step"
        before = tuple(thing)
    if before != tuple(other):
        return "end"
    return "long" if len(way) - 1 > len(apart) else None
