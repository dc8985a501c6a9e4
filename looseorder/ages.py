"""The ages of a tongue that changes, and what can be said in them."""

from looseorder.changes import changed_by, check_changes
from looseorder.coincide import first_exchange
from looseorder.errors import BadAge, BadRemark, BadThings, NoFrame
from looseorder.flat import role_rows
from looseorder.names import is_row, is_whole
from looseorder.needed import is_clear
from looseorder.shown import check_things

REMARKS_MOST = 6


class Ages:
    """A tongue and what becomes of it, change by change."""

    def __init__(self, tongue, changes):
        told = check_changes(tongue, changes)
        tongues = [tongue]
        for change in told:
            tongues.append(changed_by(tongues[-1], change))
        self.tongue = tongue
        self.changes = told
        self._tongues = tuple(tongues)

    def __eq__(self, other):
        return isinstance(other, Ages) and self.tongue == other.tongue and self.changes == other.changes

    def __len__(self):
        return len(self._tongues)

    def tongue_at(self, age):
        """The tongue of an age."""
        if not is_whole(age, 0, len(self._tongues) - 1):
            raise BadAge()
        return self._tongues[age]

    def walk_ages(self):
        """All couples (age, tongue), ascending."""
        for age, tongue in enumerate(self._tongues):
            yield age, tongue


class Unclear:
    """An age, and an exchange of its tongue."""

    def __init__(self, age, exchange):
        self.age = age
        self.exchange = exchange

    def __eq__(self, other):
        return isinstance(other, Unclear) and self.age == other.age and self.exchange == other.exchange


def unclear_ages(ages):
    """The ages whose tongue is not clear, ascending."""
    return tuple([age for age, tongue in ages.walk_ages() if not is_clear(tongue)])


def first_unclear_age(ages):
    """The first age whose tongue is not clear, with an exchange, or None."""
    for age, tongue in ages.walk_ages():
        exchange = first_exchange(tongue)
        if exchange is not None:
            return Unclear(age, exchange)
    return None


def _check_remarks(tongue, remarks):
    # All ages have the same stocks and frames, so what is a remark at one is a remark at each.
    if not is_row(remarks, 1, REMARKS_MOST):
        raise BadRemark(0)
    for index, remark in enumerate(remarks):
        if not is_row(remark, 3, 3):
            raise BadRemark(index)
        frame, things, number = remark
        try:
            check_things(tongue, frame, things, number)
        except (NoFrame, BadThings):
            raise BadRemark(index) from None


def _counts_of_rows(ages, remarks):
    # For each age, how many rows of roles each remark has.
    _check_remarks(ages.tongue, remarks)
    return [[len(role_rows(tongue, frame, things, number)) for frame, things, number in remarks]
            for _, tongue in ages.walk_ages()]


def ages_of(ages, remarks):
    """The ages at which each of the remarks has a reading, ascending."""
    return tuple([age for age, counts in enumerate(_counts_of_rows(ages, remarks)) if min(counts) > 0])


def sure_ages(ages, remarks):
    """The ages at which each of the remarks has a reading and no other roles, ascending."""
    return tuple([age for age, counts in enumerate(_counts_of_rows(ages, remarks)) if min(counts) == max(counts) == 1])
