"""Safe orders: those in which each pattern is taken with its own roles."""

from looseorder.habits import check_habit, is_row_ahead, rank_of_row
from looseorder.needed import check_few_roles
from looseorder.orders import check_order
from looseorder.patterns import rows_of_frame
from looseorder.rings import patterns_of_steps, readable_goals
from looseorder.rulings import does_keep, rows_keeping, within


class Misheard:
    """An order in which is said, and a row (role, goal, stock, number, mate) for each noun role."""

    def __init__(self, frame, order, steps):
        self.frame = frame
        self.order = order
        self.steps = steps

    def __eq__(self, other):
        return (isinstance(other, Misheard) and self.frame == other.frame and self.order == other.order
                and self.steps == other.steps)


def misheard_patterns(misheard):
    """The pattern that is said and the one that is read."""
    return patterns_of_steps(misheard.steps, misheard.order)


def led_row(order, nouns, goals):
    """The row as which an order is read; the clause role is its own goal."""
    led = dict(zip(nouns, goals))
    return tuple([led.get(role, role) for role in order])


def misheard_rows(hearing, habit, frame, order, goal_rows):
    """The rows as which a hearer of the tongue can read an order, ahead of it by the habit, the foremost first.

    Each stands behind its rank, with its goals and cells; the goal rows are those of readable_goals.
    """
    told = hearing.frames[frame]
    rules = within(hearing.closure, told.slots)
    found = []
    for goals, cells in goal_rows:
        row = led_row(order, told.nouns, goals)
        if is_row_ahead(habit, row, order) and does_keep(row, rules):
            found.append((rank_of_row(habit, row), goals, cells))
    # No two rows are equal, so the ranks alone decide.
    return sorted(found)


def steps_of(nouns, goals, cells):
    """The steps with these goals in the first heard number that is possible, and in the first cells."""
    steps = []
    for role, goal, stocks in zip(nouns, goals, cells[0]):
        stock = min(stocks)
        number, mate = stocks[stock]
        steps.append((role, goal, stock, number, mate))
    return tuple(steps)


def misheard_order(tongue, habit, frame, order):
    """What is taken for some pattern in the order with another row of roles, or None if the order is safe."""
    told = check_habit(tongue, habit)
    row = check_order(tongue, frame, order)
    found = misheard_rows(tongue, told, frame, row, readable_goals(tongue, tongue, frame))
    if len(found) == 0:
        return None
    _, goals, cells = found[0]
    return Misheard(frame, row, steps_of(tongue.frames[frame].nouns, goals, cells))


def safe_orders(tongue, habit, frame):
    """All orders of the frame that are safe under the habit, ascending."""
    told = check_habit(tongue, habit)
    rows = rows_of_frame(tongue, frame)
    goal_rows = readable_goals(tongue, tongue, frame)
    for row in rows:
        if len(misheard_rows(tongue, told, frame, row, goal_rows)) == 0:
            yield row


def first_order(tongue, habit, frame):
    """The order of the frame that is ahead of all others by the habit."""
    told = check_habit(tongue, habit)
    ranked = sorted([(rank_of_row(told, row), row) for row in rows_of_frame(tongue, frame)])
    return ranked[0][1]


def serving_habits(tongue, frame, order):
    """All habits under which the order is safe, ascending."""
    check_few_roles(tongue)
    row = check_order(tongue, frame, order)
    goal_rows = readable_goals(tongue, tongue, frame)
    for habit in rows_keeping((), list(range(len(tongue.roles)))):
        if len(misheard_rows(tongue, habit, frame, row, goal_rows)) == 0:
            yield habit
