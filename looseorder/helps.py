"""Helps: rules and articles, made at some age, that keep a changing tongue clear."""

from looseorder.changes import changed_by, check_changes
from looseorder.coincide import first_exchange
from looseorder.errors import BadChange, BadHelp, BadPick
from looseorder.names import in_tuples, is_row, is_whole
from looseorder.sayable import lots_of

POOL_MOST = 5
HELPING = ("rule", "article")


class Helps:
    """The least picks, and what is lost by each pick without one within."""

    def __init__(self, least, losses):
        self.least = least
        self.losses = losses

    def __eq__(self, other):
        return isinstance(other, Helps) and self.least == other.least and self.losses == other.losses


def _checked_pool(ages, pool):
    if not is_row(pool, 1, POOL_MOST):
        raise BadHelp(0, "pool")
    for index, entry in enumerate(pool):
        what = _help_fault(ages, entry)
        if what is not None:
            raise BadHelp(index, what)
    return in_tuples(pool)


def _help_fault(ages, entry):
    if not is_row(entry, 2, 2):
        return "help"
    age, change = entry
    if not is_whole(age, 0, len(ages) - 1):
        return "age"
    try:
        told = check_changes(ages.tongue, [change])
    except BadChange:
        return "change"
    return None if told[0][0] in HELPING else "change"


def _check_pick(many, pick):
    if not is_row(pick) or not all([is_whole(place, 0, many - 1) for place in pick]):
        raise BadPick()
    if any([place >= behind for place, behind in zip(pick, pick[1:])]):
        raise BadPick()


def helped_tongues(ages, pool, pick):
    """The tongues of all ages with the helps of the pick."""
    told = _checked_pool(ages, pool)
    _check_pick(len(told), pick)
    return _helped(ages, told, pick)


def _helped(ages, pool, pick):
    tongues = []
    for age in range(len(ages)):
        tongue = ages.tongue if age == 0 else changed_by(tongues[-1], ages.changes[age - 1])
        for place in pick:
            if pool[place][0] == age:
                tongue = changed_by(tongue, pool[place][1])
        tongues.append(tongue)
    return tuple(tongues)


def picks_of(many):
    """All picks of a pool of so many, in order."""
    places = list(range(many))
    return [pick for size in range(many + 1) for pick in lots_of(places, size)]


def least_of(losses):
    """The least picks, and the couples (pick, loss) of those without one within, both in order.

    The losses have a row for each pick of a pool, in order; the loss of a good pick is None.
    """
    least = []
    lost = []
    for pick, loss in losses.items():
        # Shorter picks come first, so a good pick without a least one within is a least one.
        if not any([all([place in pick for place in small]) for small in least]):
            if loss is None:
                least.append(pick)
            else:
                lost.append((pick, loss))
    return tuple(least), tuple(lost)


def least_helps(ages, pool):
    """The least picks with which the tongues of all ages are clear, and what is lost by the others."""
    told = _checked_pool(ages, pool)
    losses = {pick: _first_loss(_helped(ages, told, pick)) for pick in picks_of(len(told))}
    least, lost = least_of(losses)
    return Helps(least, tuple([(pick, age, exchange) for pick, (age, exchange) in lost]))


def _first_loss(tongues):
    for age, tongue in enumerate(tongues):
        exchange = first_exchange(tongue)
        if exchange is not None:
            return age, exchange
    return None
