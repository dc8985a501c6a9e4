"""Renumbered roles and other stems: the same tongue and saying in other words."""

from looseorder.errors import BadStems, BadTurn
from looseorder.frames import Frame
from looseorder.names import is_each_once, is_row, is_stem
from looseorder.sayings import Saying
from looseorder.stocks import Stock
from looseorder.tongues import Tongue


def check_turn(tongue, turn):
    """The turn, a row of all roles, each once, as a tuple."""
    if not is_each_once(turn, list(range(len(tongue.roles)))):
        raise BadTurn()
    return tuple(turn)


def _led(turn, role):
    return None if role is None else turn[role]


def _turned_stock(stock, turn):
    return Stock(stock.name, sorted([(turn[role], one, many) for role, one, many in stock.table]))


def _turned_frame(frame, turn):
    nouns = sorted([turn[role] for role in frame.nouns])
    return Frame(frame.name, nouns, _led(turn, frame.clause), _led(turn, frame.agreed))


def turned_tongue(tongue, turn):
    """The tongue in which role r has become turn[r]."""
    led = check_turn(tongue, turn)
    roles = [tongue.roles[led.index(role)] for role in range(len(led))]
    stocks = [_turned_stock(stock, led) for stock in tongue.stocks]
    frames = [_turned_frame(frame, led) for frame in tongue.frames]
    rules = [(led[ahead], led[behind]) for ahead, behind in tongue.rules]
    return Tongue(roles, stocks, frames, rules, tongue.verbs)


def turned_pattern(tongue, turn, pattern):
    """The pattern with its roles led by the turn."""
    led = check_turn(tongue, turn)
    return tuple([(led[role], stock, number) for role, stock, number in pattern])


def turned_saying(saying, turn):
    """The saying of the turned tongue that the turn makes of this one."""
    led = check_turn(saying.tongue, turn)
    return _turned_within(turned_tongue(saying.tongue, led), saying, led)


def _turned_within(tongue, saying, turn):
    items = []
    for item in saying.said:
        if item[0] == "noun":
            _, stem, stock, role, number = item
            items.append(("noun", stem, stock, turn[role], number))
        elif item[0] == "clause":
            items.append(("clause", turn[item[1]], _turned_within(tongue, item[2], turn)))
        else:
            items.append(item)
    return Saying(tongue, saying.frame, items)


def with_stems(saying, stems):
    """The saying whose nouns, as heard, have these stems."""
    many = len(list(saying.noun_items()))
    if not is_row(stems, many, many) or not all([is_stem(stem) for stem in stems]):
        raise BadStems()
    return _stemmed(saying, list(stems))


def _stemmed(saying, stems):
    # Each noun takes the first stem that is left, so a clause takes its own where it stands.
    items = []
    for item in saying.said:
        if item[0] == "noun":
            items.append(("noun", stems.pop(0), *item[2:]))
        elif item[0] == "clause":
            items.append(("clause", item[1], _stemmed(item[2], stems)))
        else:
            items.append(item)
    return Saying(saying.tongue, saying.frame, items)
