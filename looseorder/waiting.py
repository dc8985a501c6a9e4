"""What a hearer keeps while a row comes, and the orders that let the least wait."""

from looseorder.blocks import blocks_of
from looseorder.errors import FreeVerbs
from looseorder.heard import check_heard, heard_of
from looseorder.nested import check_depth, frames_with_clause, frames_without_clause
from looseorder.sayings import Saying


def _check_not_free(tongue):
    if tongue.verbs == "free":
        raise FreeVerbs()


def waiting_of(tongue, heard):
    """For each piece how many things wait."""
    pieces = check_heard(tongue, heard)
    _check_not_free(tongue)
    blocks_of(tongue, pieces)
    # With verbs first, what is still due is what waits if the row comes from its end.
    way = 1 if tongue.verbs == "last" else -1
    waits = []
    many = 0
    for piece in pieces[::way]:
        many += 1
        if piece[0] == "verb":
            many -= len(tongue.frames[piece[1]].slots)
        waits.append(many)
    return tuple(waits[::way])


def peak_of(tongue, heard):
    """The most things that wait at a piece."""
    return max(waiting_of(tongue, heard))


def _must_wait(tongue, frame):
    # The noun roles that wait while the clause comes, whatever the order.
    told = tongue.frames[frame]
    if tongue.verbs == "last":
        return [role for role in told.nouns if tongue.is_ahead(role, told.clause)]
    return [role for role in told.nouns if tongue.is_ahead(told.clause, role)]


def least_waiting(saying):
    """The saying with the same nouns in an order of each clause with the least peak."""
    _check_not_free(saying.tongue)
    return _reordered(saying)


def _reordered(saying):
    if saying.inner is None:
        return saying
    tongue = saying.tongue
    must = _must_wait(tongue, saying.frame)
    nouns = [item for item in saying.said if item[0] == "noun"]
    waiting = [item for item in nouns if item[3] in must]
    others = [item for item in nouns if item[3] not in must]
    clause = ("clause", tongue.frames[saying.frame].clause, _reordered(saying.inner))
    if tongue.verbs == "last":
        return Saying(tongue, saying.frame, [*waiting, clause, *others, ("verb",)])
    return Saying(tongue, saying.frame, [("verb",), *others, clause, *waiting])


def waiting_fault(saying, other):
    """The first word that tells why the other is no such saying with the least peak, or None."""
    _check_not_free(saying.tongue)
    if not _has_same_words(saying, other):
        return "words"
    least = peak_of(saying.tongue, heard_of(_reordered(saying)))
    return "lighter" if peak_of(saying.tongue, heard_of(other)) > least else None


def _has_same_words(saying, other):
    if saying.frame != other.frame or _own_nouns(saying) != _own_nouns(other):
        return False
    return saying.inner is None or _has_same_words(saying.inner, other.inner)


def _own_nouns(saying):
    return sorted([item for item in saying.said if item[0] == "noun"])


def memory_needed(tongue, depth):
    """The least peak that is enough for each saying with so many verbs in its best order, or None."""
    check_depth(depth)
    _check_not_free(tongue)
    outer = frames_with_clause(tongue)
    if depth > 1 and len(outer) == 0:
        return None
    needed = max([len(tongue.frames[frame].slots) for frame in frames_without_clause(tongue)])
    for _ in range(depth - 1):
        # What waits for a clause waits as long as all of it comes.
        needed = max([max(len(tongue.frames[frame].slots), len(_must_wait(tongue, frame)) + needed)
                      for frame in outer])
    return needed


def growth_of(tongue):
    """By how much each further depth raises the memory needed, or None if no frame has a clause role."""
    _check_not_free(tongue)
    outer = frames_with_clause(tongue)
    return None if len(outer) == 0 else max([len(_must_wait(tongue, frame)) for frame in outer])
