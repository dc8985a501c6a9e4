"""Books of rules: the rows that keep them, and when two books say the same."""

from looseorder.names import is_each_once, is_row, is_whole
from looseorder.rulings import check_rules, closure_of, does_keep, rows_keeping


class Parting:
    """A rule that just one of two books holds, and a row against it that keeps the other book."""

    def __init__(self, rule, row):
        self.rule = rule
        self.row = row

    def __eq__(self, other):
        return isinstance(other, Parting) and self.rule == other.rule and self.row == other.row


def _checked_closure(size, book):
    return closure_of(check_rules(size, book))


def count_rows(size, book):
    """How many rows of all the roles keep the book."""
    return len(rows_keeping(_checked_closure(size, book), list(range(size))))


def parting_of(size, one, other):
    """What parts two books, or None if the same rows keep both."""
    first = _checked_closure(size, one)
    second = _checked_closure(size, other)
    apart = _couples_of_one(first, second)
    if len(apart) == 0:
        return None
    lacking = second if apart[0] in first else first
    rows = rows_keeping(lacking, list(range(size)))
    return Parting(apart[0], [row for row in rows if not does_keep(row, [apart[0]])][0])


def _couples_of_one(first, second):
    # The couples that stand in just one of the two closures.
    return [couple for couple in first if couple not in second] + [couple for couple in second if couple not in first]


def parting_fault(size, one, other, parting):
    """The first word that tells why this does not part the two books, or None."""
    first = _checked_closure(size, one)
    second = _checked_closure(size, other)
    rule = parting.rule
    if not is_row(rule, 2, 2) or not all([is_whole(role) for role in rule]):
        return "rule"
    if tuple(rule) not in _couples_of_one(first, second):
        return "rule"
    if not is_each_once(parting.row, list(range(size))):
        return "row"
    if does_keep(parting.row, [rule]):
        return "turned"
    return None if does_keep(parting.row, second if tuple(rule) in first else first) else "keeps"


def least_book(size, book):
    """The only book of fewest rules with the same closure, ascending."""
    closure = _checked_closure(size, book)
    needless = [(ahead, last) for ahead, behind in closure for role, last in closure if role == behind]
    return tuple([couple for couple in closure if couple not in needless])
