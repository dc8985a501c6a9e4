"""Closed lists: which counts of nouns let two readings be said."""

from looseorder.coincide import clear_frames
from looseorder.counts import COUNT_MOST, check_counts, does_fit, with_count
from looseorder.rings import least_ring, pairs_moved, right_goals


def _goals_of_tongue(tongue):
    # A clear frame has no ring, so it is not looked at.
    clear = clear_frames(tongue)
    unclear = [frame for frame in range(len(tongue.frames)) if frame not in clear]
    return [(frame, goals, cells) for frame in unclear for goals, cells in right_goals(tongue, frame)]


def closed_ring(tongue, counts):
    """The least right ring with at most so many steps of each stock, or None."""
    most = check_counts(tongue, counts)
    rows = _goals_of_tongue(tongue)
    moved = [len(pairs_moved(tongue.frames[frame].nouns, goals)) for frame, goals, _ in rows]
    for many in sorted(set(moved)):
        for at, (frame, goals, cells) in enumerate(rows):
            ring = least_ring(tongue, frame, goals, cells, most) if moved[at] == many else None
            if ring is not None:
                return ring
    return None


def spoiling_counts(tongue):
    """All least counts with a ring, ascending."""
    found = set()
    for _, _, cells in _goals_of_tongue(tongue):
        for choices in cells:
            for used in _counts_of_choices(choices, (0,) * len(tongue.stocks)):
                found.add(used)
    counts = sorted(found)
    return tuple([more for more in counts if not any([less != more and does_fit(less, more) for less in counts])])


def _counts_of_choices(choices, none):
    # The counts of all rows with one of the stocks for each step, each once.
    counts = [none]
    for stocks in choices:
        counts = sorted({with_count(used, stock, used[stock] + 1) for used in counts for stock in stocks})
    return counts


def greatest_counts(tongue, counts=None):
    """All counts at most these without a ring of which none can be raised, ascending."""
    most = (COUNT_MOST,) * len(tongue.stocks) if counts is None else check_counts(tongue, counts)
    found = [most]
    for spoiling in spoiling_counts(tongue):
        cut = [less for count in found for less in _cut_below(count, spoiling)]
        found = [less for less in cut if not any([less != more and does_fit(less, more) for more in cut])]
    return tuple(sorted(set(found)))


def _cut_below(count, spoiling):
    # The greatest counts at most this one that do not reach the spoiling one.
    if not does_fit(spoiling, count):
        return [count]
    return [with_count(count, stock, need - 1) for stock, need in enumerate(spoiling) if need > 0]
