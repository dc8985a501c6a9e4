"""Foreign hearers: what is said in one tongue and read by another one."""

from looseorder.errors import BadPair, BadPool
from looseorder.flat import flat_readings, role_rows
from looseorder.names import NUMBERS, is_among, is_each_once, is_ending, is_number, is_row, is_whole
from looseorder.orders import is_order
from looseorder.patterns import bearers_of_role, row_of_roles
from looseorder.rings import cells_fault, demands_of, is_agreed_kept, pairs_moved, readable_goals
from looseorder.rulings import closure_of, first_row, has_ring
from looseorder.safety import Misheard, led_row, steps_of
from looseorder.sayable import lots_of
from looseorder.shown import shown_of

POOL_MOST = 5


class Missed:
    """A rule or an ending of a frame by which the hearer finds no right reading."""

    def __init__(self, frame, what, detail):
        self.frame = frame
        self.what = what
        self.detail = detail

    def __eq__(self, other):
        return (isinstance(other, Missed) and self.frame == other.frame and self.what == other.what
                and self.detail == other.detail)


def check_pair(one, other):
    """Raises if the two tongues are no pair."""
    names = [stock.name for stock in one.stocks]
    if (one.roles != other.roles or names != [stock.name for stock in other.stocks]
            or one.frames != other.frames or one.verbs != other.verbs):
        raise BadPair()


def foreign_readings(one, other, frame, pattern):
    """All readings, by the other tongue, of what is shown of a pattern of the one."""
    check_pair(one, other)
    things, number = shown_of(one, frame, pattern)
    return tuple(flat_readings(other, frame, things, number))


def heard_word(one, other, frame, pattern):
    """Whether the pattern is "lost", heard "right", heard "wrong", or can be heard "both" ways."""
    check_pair(one, other)
    things, number = shown_of(one, frame, pattern)
    rows = role_rows(other, frame, things, number)
    if len(rows) == 0:
        return "lost"
    if row_of_roles(pattern) not in rows:
        return "wrong"
    return "right" if len(rows) == 1 else "both"


def mistaken(one, other):
    """The first pattern that can be read with a wrong row of roles, or None."""
    check_pair(one, other)
    for frame, told in enumerate(one.frames):
        for goals, cells in readable_goals(one, other, frame):
            demands = demands_of(one, other, frame, pairs_moved(told.nouns, goals))
            if not has_ring(demands):
                return Misheard(frame, first_row(closure_of(demands), told.slots), steps_of(told.nouns, goals, cells))
    return None


def misheard_fault(one, other, misheard):
    """The first word that tells why nothing is misheard so, or None."""
    check_pair(one, other)
    if not is_whole(misheard.frame, 0, len(one.frames) - 1):
        return "frame"
    if not is_order(one, misheard.frame, misheard.order):
        return "order"
    nouns = one.frames[misheard.frame].nouns
    if not _are_steps(nouns, misheard.steps):
        return "steps"
    goals = [step[1] for step in misheard.steps]
    if not is_each_once(goals, nouns) or tuple(goals) == nouns:
        return "goals"
    what = cells_fault(one, other, misheard.steps)
    if what is not None:
        return what
    if not is_agreed_kept(one.frames[misheard.frame].agreed, misheard.steps):
        return "agreed"
    return None if is_order(other, misheard.frame, led_row(misheard.order, nouns, goals)) else "read"


def _are_steps(nouns, steps):
    if not is_row(steps, len(nouns), len(nouns)) or not all([is_row(step, 5, 5) for step in steps]):
        return False
    return all([is_whole(step[0], role, role) for step, role in zip(steps, nouns)])


def right_reading(one, other):
    """The first thing by which the hearer misses the right reading of some pattern, or None."""
    check_pair(one, other)
    for frame, told in enumerate(one.frames):
        for rule in other.closure:
            if rule[0] in told.slots and rule[1] in told.slots and not one.is_ahead(rule[0], rule[1]):
                return Missed(frame, "rule", rule)
        cell = missed_cell(one, other, frame)
        if cell is not None:
            return Missed(frame, "ending", cell)
    return None


def missed_cell(one, other, frame):
    """The first (role, stock, number) of the frame by whose ending the hearer does not find the role, or None."""
    agreed = one.frames[frame].agreed
    for role in one.frames[frame].nouns:
        for stock in bearers_of_role(one, role):
            for number in NUMBERS:
                mates = (number,) if role == agreed else NUMBERS
                shown = [other.ending_at(stock, role, mate) for mate in mates]
                if one.ending_at(stock, role, number) not in shown:
                    return role, stock, number
    return None


def pair_word(one, other):
    """Whether something is heard "wrong", else "missed", or all is heard "right"."""
    if mistaken(one, other) is not None:
        return "wrong"
    return "right" if right_reading(one, other) is None else "missed"


def least_changes(one, other, pool):
    """All lots of the fewest entries of the pool that leave nothing mistaken, ascending."""
    check_pair(one, other)
    _check_pool(other, pool)
    places = list(range(len(pool)))
    for size in range(len(pool) + 1):
        good = [lot for lot in lots_of(places, size) if mistaken(one, _changed(other, pool, lot)) is None]
        if len(good) > 0:
            return tuple(good)
    return ()


def _check_pool(other, pool):
    if not is_row(pool, 1, POOL_MOST):
        raise BadPool(0)
    met = []
    for index, entry in enumerate(pool):
        if not _is_entry(other, entry) or tuple(entry[:3]) in met:
            raise BadPool(index)
        met.append(tuple(entry[:3]))


def _is_entry(other, entry):
    if not is_row(entry, 4, 4) or not is_whole(entry[0], 0, len(other.stocks) - 1):
        return False
    return is_among(entry[1], other.stocks[entry[0]].borne) and is_number(entry[2]) and is_ending(entry[3])


def _changed(other, pool, lot):
    found = other
    for place in lot:
        stock, role, number, ending = pool[place]
        found = found.with_ending(stock, role, number, ending)
    return found
