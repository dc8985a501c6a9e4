"""Frames of verbs: their noun roles, clause role and agreed role."""

from looseorder.errors import BadFrame
from looseorder.names import NAME_MOST, is_among, is_name, is_row, is_whole


def _are_nouns(nouns):
    if not is_row(nouns, 1, 5):
        return False
    last = -1
    for role in nouns:
        if not is_whole(role, last + 1, 5):
            return False
        last = role
    return True


class Frame:
    """Verbs with the same slots."""

    def __init__(self, name, nouns, clause=None, agreed=None):
        if not is_name(name, NAME_MOST):
            raise BadFrame("name")
        if not _are_nouns(nouns):
            raise BadFrame("nouns")
        if clause is not None and (not is_whole(clause, 0, 5) or clause in nouns):
            raise BadFrame("clause")
        if agreed is not None and not is_among(agreed, nouns):
            raise BadFrame("agreed")
        self.name = name
        self.nouns = tuple(nouns)
        self.clause = clause
        self.agreed = agreed

    def __eq__(self, other):
        return (isinstance(other, Frame) and self.name == other.name and self.nouns == other.nouns
                and self.clause == other.clause and self.agreed == other.agreed)

    @property
    def slots(self):
        """The noun roles and the clause role, ascending."""
        if self.clause is None:
            return self.nouns
        return tuple(sorted([*self.nouns, self.clause]))
