"""From patterns to sayings and back."""

from looseorder.names import LETTERS
from looseorder.patterns import check_pattern, plain_pattern
from looseorder.sayings import Saying, nouns_of_item, role_of_item


def pattern_of(saying):
    """The pattern of the outermost clause."""
    entries = []
    for item in saying.said:
        if item[0] == "noun":
            entries.append((item[3], item[2], item[4]))
        elif item[0] == "clause":
            entries.append((item[1], None, None))
    return tuple(entries)


def saying_of(tongue, frame, pattern):
    """A saying with this pattern and the stems "a", "b", "c" and so on."""
    told = check_pattern(tongue, frame, pattern)
    without = [number for number, mate in enumerate(tongue.frames) if mate.clause is None]
    return said_from(tongue, (frame, without[0]), told, 0)


def said_from(tongue, frames, pattern, start):
    """The saying with this pattern of the first frame, and in its clause the plain patterns of the others.

    The stems go on from the given letter, since an inner clause may stand behind nouns.
    """
    items = []
    letter = start
    for role, stock, number in pattern:
        if stock is None:
            plain = plain_pattern(tongue, frames[1])
            item = ("clause", role, said_from(tongue, frames[1:], plain, letter))
        else:
            item = ("noun", LETTERS[letter], stock, role, number)
        items.append(item)
        letter += len(nouns_of_item(item))
    verb = 0 if tongue.verbs == "first" else len(items)
    items.insert(verb, ("verb",))
    return Saying(tongue, frames[0], items)


def plain_saying(tongue, frame):
    """The saying of the plain pattern."""
    return saying_of(tongue, frame, plain_pattern(tongue, frame))


def has_same_roles(saying, other):
    """Whether both have equal frames and the same items but for the numbers of their nouns."""
    if saying.frame != other.frame or len(saying.said) != len(other.said):
        return False
    return all([_are_alike(item, mate) for item, mate in zip(saying.said, other.said)])


def _are_alike(item, mate):
    if item[0] != mate[0] or role_of_item(item) != role_of_item(mate):
        return False
    if item[0] == "clause":
        return has_same_roles(item[2], mate[2])
    return item[:4] == mate[:4]
