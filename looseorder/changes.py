"""Changes of a tongue: rules told and struck, endings put, wears and articles."""

from looseorder.articles import check_article, with_article
from looseorder.errors import BadArticle, BadChange, BadWear
from looseorder.names import are_unlike_of, in_tuples, is_among, is_ending, is_number, is_row, is_whole
from looseorder.rulings import has_ring
from looseorder.wearing import Wear, wear_tongue

CHANGES_MOST = 60
PARTS_MOST = 4
LENGTHS = {"rule": 3, "strike": 3, "ending": 5, "wear": 2, "article": 3}


def check_changes(tongue, changes):
    """The changes with all sequences as tuples."""
    if not is_row(changes, 0, CHANGES_MOST):
        raise BadChange(0, "many")
    for index, change in enumerate(changes):
        what = _change_fault(tongue, change)
        if what is not None:
            raise BadChange(index, what)
    return in_tuples(changes)


def is_form(thing, lengths):
    """Whether the thing is a sequence of one of these forms: its first word and its length."""
    return is_row(thing, 1) and isinstance(thing[0], str) and lengths.get(thing[0]) == len(thing)


def _change_fault(tongue, change):
    if not is_form(change, dict(LENGTHS)):
        return "change"
    if change[0] == "wear":
        return _wear_fault(change)
    if change[0] == "article":
        return _article_fault(tongue, change)
    if change[0] == "ending":
        return _ending_fault(tongue, change)
    return None if are_unlike_of(change[1:], list(range(len(tongue.roles)))) else "role"


def _wear_fault(change):
    try:
        Wear(change[1])
    except BadWear:
        return "wear"
    return None


def _is_stock(tongue, thing):
    return is_whole(thing, 0, len(tongue.stocks) - 1)


def _article_fault(tongue, change):
    _, stock, rows = change
    if not _is_stock(tongue, stock):
        return "stock"
    try:
        check_article(tongue, stock, rows)
    except BadArticle:
        return "article"
    return None


def _ending_fault(tongue, change):
    _, stock, role, number, ending = change
    if not _is_stock(tongue, stock):
        return "stock"
    if not is_among(role, tongue.stocks[stock].borne):
        return "role"
    if not is_number(number):
        return "number"
    return None if is_ending(ending) else "ending"


def make_changes(tongue, changes):
    """The tongue behind all changes, made one after another."""
    return changed_by_all(tongue, check_changes(tongue, changes))


def changed_by_all(tongue, changes):
    """What make_changes returns, for any count of changes that are right."""
    found = tongue
    for change in changes:
        found = changed_by(found, change)
    return found


def changed_by(tongue, change):
    """The tongue behind one change that is right."""
    if change[0] == "rule":
        rules = [*tongue.rules, change[1:]]
        return tongue if has_ring(rules) else tongue.with_rules(rules)
    if change[0] == "strike":
        return tongue.with_rules([rule for rule in tongue.rules if rule != change[1:]])
    if change[0] == "wear":
        return wear_tongue(tongue, Wear(change[1]))
    if change[0] == "article":
        return _with_article(tongue, change[1], change[2])
    _, stock, role, number, ending = change
    return tongue.with_ending(stock, role, number, ending)


def _with_article(tongue, stock, rows):
    longest = max([len(ending) for ending in tongue.stocks[stock].endings])
    return tongue if longest == PARTS_MOST else with_article(tongue, stock, rows)
