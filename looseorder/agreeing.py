"""Verbs that tell the number of one noun."""

from looseorder.coincide import first_exchange
from looseorder.doubts import doubtful_roles
from looseorder.errors import BadChoices, NoReading
from looseorder.flat import role_rows
from looseorder.names import is_among, is_row


class Choices:
    """An agreed role, or None, for each frame."""

    def __init__(self, agreed):
        self.agreed = agreed

    def __eq__(self, other):
        return isinstance(other, Choices) and self.agreed == other.agreed


class TwoDoubtful:
    """A frame with two roles whose numbers are not heard, so one agreed role cannot do."""

    def __init__(self, frame, role, other):
        self.frame = frame
        self.role = role
        self.other = other

    def __eq__(self, other):
        return (isinstance(other, TwoDoubtful) and self.frame == other.frame and self.role == other.role
                and self.other == other.other)


def with_agreement(tongue, choices):
    """The tongue with other agreed roles, one or None for each frame."""
    many = len(tongue.frames)
    if not is_row(choices, many, many):
        raise BadChoices(0)
    for index, choice in enumerate(choices):
        if choice is not None and not is_among(choice, tongue.frames[index].nouns):
            raise BadChoices(index)
    found = tongue
    for frame, choice in enumerate(choices):
        found = found.with_agreed(frame, choice)
    return found


def without_agreement(tongue):
    """The tongue in which no frame has an agreed role."""
    return with_agreement(tongue, [None] * len(tongue.frames))


def least_agreement(tongue):
    """The choices with the fewest agreed frames that make the tongue wholly clear, or why there are none."""
    exchange = first_exchange(tongue)
    if exchange is not None:
        return exchange
    agreed = []
    for frame in range(len(tongue.frames)):
        doubtful = doubtful_roles(tongue, frame)
        if len(doubtful) > 1:
            return TwoDoubtful(frame, doubtful[0], doubtful[1])
        agreed.append(None if len(doubtful) == 0 else doubtful[0])
    return Choices(tuple(agreed))


def count_agreements(tongue):
    """How many unlike rows of choices make the tongue wholly clear."""
    if first_exchange(tongue) is not None:
        return 0
    many = 1
    for frame, told in enumerate(tongue.frames):
        # A doubtful role must be the agreed one; without one any choice does.
        ways = (len(told.nouns) + 1, 1, 0)
        many *= ways[min(2, len(doubtful_roles(tongue, frame)))]
    return many


def is_saved(tongue, frame, things, number):
    """Whether the number of the agreed noun alone leaves the things one row of roles."""
    rows = role_rows(tongue, frame, things, number)
    if len(rows) == 0:
        raise NoReading()
    if tongue.frames[frame].agreed is None or len(rows) > 1:
        return False
    return len(role_rows(without_agreement(tongue), frame, things, None)) > 1
