"""Endings and rules that stand in for each other."""

from looseorder.endings import fewest_endings
from looseorder.errors import BadTrade
from looseorder.frames import Frame
from looseorder.names import LETTERS, is_whole
from looseorder.needed import books_of, check_few_roles
from looseorder.stocks import Stock
from looseorder.tongues import Tongue, check_stock

SIZE_MOST = 5


def _check_size(size):
    if not is_whole(size, 1, SIZE_MOST):
        raise BadTrade("size")


def can_trade(size):
    """All rows (endings, rules) with which a frame of so many noun roles can be clear, ascending."""
    _check_size(size)
    return tuple([(endings, rules) for endings in range(1, size + 1) for rules in range(size)
                  if endings + rules >= size])


def trade_tongue(size, endings, rules):
    """A clear tongue with just so many unlike endings and rules, or None if there is none."""
    _check_size(size)
    if not is_whole(endings, 1, size):
        raise BadTrade("endings")
    if not is_whole(rules, 0, size - 1):
        raise BadTrade("rules")
    if endings + rules < size:
        return None
    # The first roles share an ending and stand in one chain; each of the others has an ending of its own.
    shared = size - endings
    letters = [LETTERS[max(0, role - shared)] for role in range(size)]
    stock = Stock("noun", [(role, (letter,), (letter,)) for role, letter in enumerate(letters)])
    chain = [(role, role + 1) for role in range(rules)]
    return Tongue(list(LETTERS[:size]), [stock], [Frame("verb", list(range(size)))], chain)


def trade_of(tongue, stock):
    """For each count of rules, the fewest endings that the stock needs with the best book of so many."""
    check_stock(tongue, stock)
    check_few_roles(tongue)
    many = len(tongue.roles)
    books = [books_of(many, rules) for rules in range(many)]
    return tuple([min([fewest_endings(tongue.with_rules(book), stock).least for book in lot]) for lot in books])
