"""Rings: misreadings of a whole pattern, in which each noun is read in the role of another."""

from looseorder.coincide import alike_across
from looseorder.counts import check_counts, counts_of_stocks, does_fit, with_count
from looseorder.errors import BadRing
from looseorder.names import NUMBERS, is_among, is_each_once, is_number, is_whole, number_rank
from looseorder.patterns import bearers_of_role, rows_of_frame
from looseorder.rulings import does_keep, has_ring, within
from looseorder.tongues import check_frame, check_role


class Ring:
    """A row (role, goal, stock, number, mate) for each noun role: said in the role, read in the goal."""

    def __init__(self, frame, steps):
        self.frame = frame
        self.steps = steps

    def __eq__(self, other):
        return isinstance(other, Ring) and self.frame == other.frame and self.steps == other.steps


def led_back(couples, pairs):
    """The couples, ascending, with each goal of a pair (role, goal) replaced by its role."""
    roles = {goal: role for role, goal in pairs}
    return tuple(sorted([(roles.get(ahead, ahead), roles.get(behind, behind)) for ahead, behind in couples]))


def demands_of(one, other, frame, pairs):
    """Which slot must stand ahead of which one, as said in one tongue and as read by the other."""
    slots = one.frames[frame].slots
    return [*within(one.closure, slots), *led_back(within(other.closure, slots), pairs)]


def _moves_of(ring):
    return [(step[0], step[1]) for step in ring.steps if step[0] != step[1]]


def ring_fault(tongue, ring, counts=None):
    """The first word that tells why this is no right ring of the tongue, or None."""
    most = None if counts is None else check_counts(tongue, counts)
    if not isinstance(ring, Ring):
        return "kind"
    if not is_whole(ring.frame, 0, len(tongue.frames) - 1):
        return "frame"
    nouns = tongue.frames[ring.frame].nouns
    if not _are_steps(nouns, ring.steps):
        return "steps"
    if not is_each_once([step[1] for step in ring.steps], nouns):
        return "goal"
    what = cells_fault(tongue, tongue, ring.steps)
    if what is not None:
        return what
    what = _whole_fault(tongue, ring, _moves_of(ring))
    if what is not None or most is None:
        return what
    used = counts_of_stocks(tongue, [step[2] for step in ring.steps])
    return None if does_fit(used, most) else "many"


def _are_steps(nouns, steps):
    if not isinstance(steps, tuple) or len(steps) != len(nouns):
        return False
    if not all([isinstance(step, tuple) and len(step) == 5 for step in steps]):
        return False
    return all([is_whole(step[0], role, role) for step, role in zip(steps, nouns)])


def cells_fault(one, other, steps):
    """The first word that tells why the endings said in one tongue are not so read by the other, or None."""
    for role, goal, stock, _, _ in steps:
        if not is_among(stock, bearers_of_role(one, role)) or stock not in bearers_of_role(other, goal):
            return "stock"
    for step in steps:
        if not is_number(step[3]) or not is_number(step[4]):
            return "number"
    for role, goal, stock, number, mate in steps:
        if one.ending_at(stock, role, number) != other.ending_at(stock, goal, mate):
            return "shown"
    return None


def _whole_fault(tongue, ring, moves):
    if len(moves) == 0:
        return "rest"
    if not is_agreed_kept(tongue.frames[ring.frame].agreed, ring.steps):
        return "agreed"
    return "order" if has_ring(demands_of(tongue, tongue, ring.frame, moves)) else None


def is_agreed_kept(agreed, steps):
    """Whether the noun of the agreed role is said in the number in which the noun read as it is read."""
    said = [step[3] for step in steps if step[0] == agreed]
    return said == [step[4] for step in steps if step[1] == agreed]


def ring_patterns(tongue, ring):
    """Two patterns that are heard alike: as the ring says and as it reads."""
    what = ring_fault(tongue, ring)
    if what is not None:
        raise BadRing(what)
    demands = demands_of(tongue, tongue, ring.frame, _moves_of(ring))
    row = [order for order in rows_of_frame(tongue, ring.frame) if does_keep(order, demands)][0]
    return patterns_of_steps(ring.steps, row)


def patterns_of_steps(steps, row):
    """The pattern that is said in this row of roles, and the one that is read."""
    said = {step[0]: (step[0], step[2], step[3]) for step in steps}
    read = {step[0]: (step[1], step[2], step[4]) for step in steps}
    # The clause has no step: it stands where it is said.
    return (tuple([said.get(role, (role, None, None)) for role in row]),
            tuple([read.get(role, (role, None, None)) for role in row]))


def readable_goals(one, other, frame):
    """The rows of goals, ascending, in which endings of one tongue can be read by the other, not all at rest.

    Each stands with its cells for each heard number that is possible, "one" ahead of "many".
    """
    told = one.frames[frame]
    alike = {(role, goal): alike_across(one, other, role, goal) for role in told.nouns for goal in told.nouns}
    options = [[goal for goal in told.nouns if len(alike[(role, goal)]) > 0] for role in told.nouns]
    found = []
    for goals in _goal_rows(options):
        cells = _cells_by_heard(told.agreed, list(zip(told.nouns, goals)), alike)
        if goals != told.nouns and len(cells) > 0:
            found.append((goals, cells))
    return found


def pairs_moved(nouns, goals):
    """The pairs (role, goal) with unlike goals."""
    return [(role, goal) for role, goal in zip(nouns, goals) if role != goal]


def right_goals(tongue, frame):
    """The rows of goals of right rings, ascending, each with its cells for each heard number."""
    nouns = tongue.frames[frame].nouns
    return [(goals, cells) for goals, cells in readable_goals(tongue, tongue, frame)
            if not has_ring(demands_of(tongue, tongue, frame, pairs_moved(nouns, goals)))]


def _goal_rows(options):
    # All rows with one of the options for each place, each goal once, ascending.
    if len(options) == 0:
        return [()]
    rows = []
    for goal in options[0]:
        left = [[other for other in more if other != goal] for more in options[1:]]
        rows += [(goal, *row) for row in _goal_rows(left)]
    return rows


def _cells_by_heard(agreed, pairs, alike):
    # For each heard number that is possible: for each step its stocks, each with its first number and mate.
    found = []
    heard_numbers = (None,) if agreed is None else NUMBERS
    for heard in heard_numbers:
        cells = []
        for role, goal in pairs:
            fits = [row for row in alike[(role, goal)]
                    if (role != agreed or row[1] == heard) and (goal != agreed or row[2] == heard)]
            cells.append({row[0]: (row[1], row[2]) for row in reversed(fits)})
        if all([len(stocks) > 0 for stocks in cells]):
            found.append(cells)
    return found


def least_ring(tongue, frame, goals, cells, counts):
    """The least right ring with these goals and at most so many steps of each stock, or None."""
    found = []
    for choices in cells:
        stocks = _first_stocks(choices, counts)
        if stocks is not None:
            shown = [fits[stock] for fits, stock in zip(choices, stocks)]
            numbers = [number_rank(number) for number, _ in shown]
            found.append((stocks, numbers, [number_rank(mate) for _, mate in shown]))
    if len(found) == 0:
        return None
    stocks, numbers, mates = min(found)
    nouns = tongue.frames[frame].nouns
    return Ring(frame, tuple([(role, goal, stock, NUMBERS[number], NUMBERS[mate])
                              for role, goal, stock, number, mate in zip(nouns, goals, stocks, numbers, mates)]))


def _first_stocks(choices, counts):
    if len(choices) == 0:
        return ()
    for stock in sorted(choices[0]):
        if counts[stock] > 0:
            rest = _first_stocks(choices[1:], with_count(counts, stock, counts[stock] - 1))
            if rest is not None:
                return (stock, *rest)
    return None


def taken_couples(tongue, frame):
    """The couples of roles, the lesser one first, of which one can be said and the other one read."""
    check_frame(tongue, frame)
    nouns = tongue.frames[frame].nouns
    steps = [step for goals, _ in right_goals(tongue, frame) for step in zip(nouns, goals)]
    return tuple(sorted({step for step in steps if step[0] < step[1]}))


def ring_taking(tongue, frame, role, goal):
    """A right ring with a step from the role to the goal, or None."""
    check_frame(tongue, frame)
    check_role(tongue, role)
    check_role(tongue, goal)
    nouns = tongue.frames[frame].nouns
    if role == goal or role not in nouns or goal not in nouns:
        return None
    enough = (len(nouns),) * len(tongue.stocks)
    for goals, cells in right_goals(tongue, frame):
        if goals[nouns.index(role)] == goal:
            return least_ring(tongue, frame, goals, cells, enough)
    return None


def sure_nouns(tongue, frame):
    """The noun roles that are never taken for another one, ascending."""
    taken = [role for couple in taken_couples(tongue, frame) for role in couple]
    return tuple([role for role in tongue.frames[frame].nouns if role not in taken])
