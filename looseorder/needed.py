"""The fewest rules that make a tongue clear, and rules that it does not need."""

from looseorder.coincide import clear_frames, coinciding_couples
from looseorder.errors import BadRules, NotClear, TooManyRoles, TooManyRules
from looseorder.rulings import check_rules, has_ring
from looseorder.sayable import lots_of

WALKED_ROLES = 4
WALKED_RULES = 8


class Needed:
    """The fewest rules that are enough, and such a book."""

    def __init__(self, least, rules):
        self.least = least
        self.rules = rules

    def __eq__(self, other):
        return isinstance(other, Needed) and self.least == other.least and self.rules == other.rules


def all_coinciding(tongue):
    """The couples of roles, the lesser one first, that coincide in some frame, ascending."""
    return tuple(sorted({couple for frame in range(len(tongue.frames))
                         for couple in coinciding_couples(tongue, frame)}))


def hanging_parts(couples):
    """The lots of things that the couples join, directly or by others, each ascending."""
    parts = []
    for couple in couples:
        joined = [part for part in parts if couple[0] in part or couple[1] in part]
        things = [*couple, *[thing for part in joined for thing in part]]
        parts = [part for part in parts if part not in joined] + [sorted(set(things))]
    return parts


def rules_needed(tongue):
    """The fewest rules that make the tongue clear, its tables as they are."""
    parts = hanging_parts(all_coinciding(tongue))
    rules = tuple(sorted([rule for part in parts for rule in zip(part, part[1:])]))
    return Needed(len(rules), rules)


def is_clear(tongue):
    """Whether no frame has an exchange."""
    return len(clear_frames(tongue)) == len(tongue.frames)


def book_fault(tongue, book):
    """The first word that tells why this is no book of fewest rules that make the tongue clear, or None."""
    try:
        rules = check_rules(len(tongue.roles), book)
    except BadRules:
        return "book"
    if not is_clear(tongue.with_rules(rules)):
        return "clear"
    return "many" if len(rules) > rules_needed(tongue).least else None


def check_few_roles(tongue):
    """Raises if the tongue has more roles than all books are walked for."""
    if len(tongue.roles) > WALKED_ROLES:
        raise TooManyRoles(WALKED_ROLES)


def books_of(many, size):
    """All books of just so many unlike rules over so many roles, ascending."""
    rules = [(ahead, behind) for ahead in range(many) for behind in range(many) if ahead != behind]
    return [book for book in lots_of(rules, size) if not has_ring(book)]


def all_least_books(tongue):
    """All books of fewest rules that make the tongue clear, ascending."""
    check_few_roles(tongue)
    for book in books_of(len(tongue.roles), rules_needed(tongue).least):
        if is_clear(tongue.with_rules(book)):
            yield book


def _check_clear(tongue):
    if not is_clear(tongue):
        raise NotClear()


def needless_rules(tongue):
    """The rules each of which, alone, can be struck while the tongue stays clear, ascending."""
    _check_clear(tongue)
    return tuple([rule for rule in tongue.rules if is_clear(tongue.without_rule(rule[0], rule[1]))])


def fewest_kept(tongue):
    """The fewest of the rules with which the tongue is clear, of several the first."""
    _check_clear(tongue)
    if len(tongue.rules) > WALKED_RULES:
        raise TooManyRules(WALKED_RULES)
    books = [book for size in range(len(tongue.rules) + 1) for book in lots_of(tongue.rules, size)]
    return [book for book in books if is_clear(tongue.with_rules(book))][0]
