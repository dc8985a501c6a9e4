"""Whole numbers, names, numbers and endings, and what is none of them."""

from looseorder.errors import BadEnding

NUMBERS = ("one", "many")
LETTERS = "abcdefghijklmnopqrstuvwxyz"
NAME_MOST = 8
STEM_MOST = 6


def is_whole(thing, low=None, high=None):
    """Whether the thing is a whole number from low to high; an end that is None is not asked."""
    if isinstance(thing, bool) or not isinstance(thing, int):
        return False
    return (low is None or thing >= low) and (high is None or thing <= high)


def is_among(thing, wholes):
    """Whether the thing is one of these whole numbers; True is not 1."""
    return is_whole(thing) and thing in wholes


def is_row(thing, low=0, high=None):
    """Whether the thing is a sequence of low to high entries; an end that is None is not asked."""
    return isinstance(thing, (list, tuple)) and len(thing) >= low and (high is None or len(thing) <= high)


def are_unlike_of(thing, wholes):
    """Whether the thing is a sequence of unlike ones of these whole numbers."""
    return is_row(thing) and all([is_among(whole, wholes) for whole in thing]) and len(set(thing)) == len(thing)


def is_each_once(thing, wholes):
    """Whether the thing is a sequence of all these unlike whole numbers, each once, in any order."""
    return are_unlike_of(thing, wholes) and len(thing) == len(wholes)


def in_tuples(thing):
    """The thing with all sequences in it as tuples; what is no sequence stays."""
    return tuple([in_tuples(entry) for entry in thing]) if is_row(thing) else thing


def are_letters(text):
    """Whether a string has no character but a to z; an empty one has none."""
    return all(["a" <= letter <= "z" for letter in text])


def is_name(thing, most):
    """Whether the thing is a text of 1 to most letters a to z."""
    return isinstance(thing, str) and 1 <= len(thing) <= most and are_letters(thing)


def is_stem(thing):
    """Whether the thing can be the stem of a noun."""
    return is_name(thing, STEM_MOST)


def is_number(thing):
    """Whether the thing is "one" or "many"."""
    return isinstance(thing, str) and thing in NUMBERS


def is_part(thing):
    """Whether the thing is a part of an ending: a text of 0 to 3 letters a to z."""
    return isinstance(thing, str) and len(thing) <= 3 and are_letters(thing)


def is_ending(thing):
    """Whether the thing is a list or tuple of 1 to 4 parts."""
    return is_row(thing, 1, 4) and all([is_part(part) for part in thing])


def ending_from(thing):
    """The thing as an ending, a tuple of parts."""
    if not is_ending(thing):
        raise BadEnding()
    return tuple(thing)


def number_rank(number):
    """The rank of a number in every order; that of the clause, None, is 0 too."""
    return 1 if number == "many" else 0
