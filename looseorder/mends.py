"""Mends: picks of changes behind which a tongue grants all wishes."""

from looseorder.changes import changed_by_all, check_changes
from looseorder.errors import BadChange
from looseorder.helps import POOL_MOST, least_of, picks_of
from looseorder.names import is_row
from looseorder.wishes import broken_wish, check_wishes


class Mends:
    """The least picks, and the wish that is broken behind each pick without one within."""

    def __init__(self, least, losses):
        self.least = least
        self.losses = losses

    def __eq__(self, other):
        return isinstance(other, Mends) and self.least == other.least and self.losses == other.losses

    @property
    def needed(self):
        """The places that are in every least pick, ascending."""
        first = self.least[0] if len(self.least) > 0 else ()
        return tuple([place for place in first if all([place in pick for pick in self.least])])


class Spoiler:
    """A least pick, a change more, and the wish that it breaks."""

    def __init__(self, pick, added, broken):
        self.pick = pick
        self.added = added
        self.broken = broken

    def __eq__(self, other):
        return (isinstance(other, Spoiler) and self.pick == other.pick and self.added == other.added
                and self.broken == other.broken)


def _losses_of(tongue, pool, wishes):
    # For each pick the wish that is broken behind it, None for a good one.
    if not is_row(pool, 1, POOL_MOST):
        raise BadChange(0, "pool")
    changes = check_changes(tongue, pool)
    told = check_wishes(tongue, wishes)
    return {pick: broken_wish(changed_by_all(tongue, [changes[place] for place in pick]), told)
            for pick in picks_of(len(changes))}


def find_mends(tongue, pool, wishes):
    """All least picks of the pool, and what is broken behind the others without one within."""
    least, losses = least_of(_losses_of(tongue, pool, wishes))
    return Mends(least, losses)


def find_spoilers(tongue, pool, wishes):
    """All least picks with a change more behind which they are not good."""
    losses = _losses_of(tongue, pool, wishes)
    least, _ = least_of(losses)
    found = []
    for pick in least:
        for added in [place for place in range(len(pool)) if place not in pick]:
            broken = losses[tuple(sorted([*pick, added]))]
            if broken is not None:
                found.append(Spoiler(pick, added, broken))
    return tuple(found)
