"""Meetings: orders that are safe with hearers of other tongues, and tongues joined."""

from looseorder.errors import BadHearers, BadPair
from looseorder.foreign import check_pair, missed_cell
from looseorder.habits import check_habit
from looseorder.names import is_row
from looseorder.orders import is_order
from looseorder.patterns import rows_of_frame
from looseorder.rings import readable_goals
from looseorder.rulings import has_ring
from looseorder.safety import misheard_rows

HEARERS_MOST = 3


class Hearer:
    """One who reads by a tongue and takes by a habit."""

    def __init__(self, tongue, habit):
        self.habit = check_habit(tongue, habit)
        self.tongue = tongue

    def __eq__(self, other):
        return isinstance(other, Hearer) and self.tongue == other.tongue and self.habit == other.habit


def safe_with(one, hearer, frame):
    """All orders of the frame, ascending, in which the hearer takes each pattern of the tongue with its roles."""
    hearing = hearer.tongue
    check_pair(one, hearing)
    rows = rows_of_frame(one, frame)
    # If an ending is missed, a pattern in each order has no reading with its own roles.
    if missed_cell(one, hearing, frame) is None:
        goal_rows = readable_goals(one, hearing, frame)
        for row in rows:
            misheard = misheard_rows(hearing, hearer.habit, frame, row, goal_rows)
            if is_order(hearing, frame, row) and len(misheard) == 0:
                yield row


def _check_hearers(one, hearers):
    if not is_row(hearers, 1, HEARERS_MOST):
        raise BadHearers(0)
    for index, hearer in enumerate(hearers):
        if not isinstance(hearer, Hearer):
            raise BadHearers(index)
        try:
            check_pair(one, hearer.tongue)
        except BadPair:
            raise BadHearers(index) from None


def safe_for_all(one, hearers, frame):
    """The orders of the frame that are safe with each of the hearers, ascending."""
    _check_hearers(one, hearers)
    lots = [list(safe_with(one, hearer, frame)) for hearer in hearers]
    return tuple([row for row in lots[0] if all([row in lot for lot in lots])])


def joined_tongue(one, other):
    """The tongue with the rules of both, or None if these have a ring."""
    check_pair(one, other)
    rules = [*one.rules, *other.rules]
    return None if has_ring(rules) else one.with_rules(rules)
