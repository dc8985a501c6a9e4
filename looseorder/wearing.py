"""Wears: parts of endings that become other parts."""

from looseorder.coincide import first_exchange
from looseorder.errors import BadWear
from looseorder.names import NUMBERS, is_part, is_row
from looseorder.needed import hanging_parts
from looseorder.swallowing import common_stocks
from looseorder.tongues import with_tables


def _check_rows(rows):
    if not is_row(rows):
        raise BadWear(0, "rows")
    met = []
    for index, row in enumerate(rows):
        if not is_row(row, 2, 2):
            raise BadWear(index, "row")
        if not is_part(row[0]) or not is_part(row[1]):
            raise BadWear(index, "part")
        if row[0] in met:
            raise BadWear(index, "double")
        met.append(row[0])


class Wear:
    """A map of parts; a part that no row begins with stays."""

    def __init__(self, rows):
        _check_rows(rows)
        self.rows = tuple(sorted([(part, led) for part, led in rows if part != led]))
        self._led = dict(self.rows)

    def __eq__(self, other):
        return isinstance(other, Wear) and self.rows == other.rows

    def led_part(self, part):
        """Where a part is led."""
        return self._led.get(part, part)

    def led_ending(self, ending):
        """The ending with each of its parts led."""
        return tuple([self.led_part(part) for part in ending])

    def then(self, other):
        """The wear that leads by this one first, and then by the other."""
        parts = sorted(set([part for part, _ in [*self.rows, *other.rows]]))
        return Wear([(part, other.led_part(self.led_part(part))) for part in parts])


class WornOut:
    """A wear, and an exchange of the worn tongue."""

    def __init__(self, wear, exchange):
        self.wear = wear
        self.exchange = exchange

    def __eq__(self, other):
        return isinstance(other, WornOut) and self.wear == other.wear and self.exchange == other.exchange


def wear_tongue(tongue, wear):
    """The tongue with every ending led."""
    return with_tables(tongue, [[(role, wear.led_ending(one), wear.led_ending(many))
                                 for role, one, many in stock.table] for stock in tongue.stocks])


def least_wear(tongue):
    """A wear with the fewest rows behind which the tongue is not clear, or None."""
    wears = [_joining(one, other) for one, other in _endings_kept_apart(tongue)]
    if len(wears) == 0:
        return None
    fewest = min([len(wear.rows) for wear in wears])
    wear = [wear for wear in wears if len(wear.rows) == fewest][0]
    return WornOut(wear, first_exchange(wear_tongue(tongue, wear)))


def _endings_kept_apart(tongue):
    # The couples of endings with as many parts that would make an exchange if they were alike.
    couples = []
    for frame in range(len(tongue.frames)):
        for role, other, stock in common_stocks(tongue, frame):
            couples += [(tongue.ending_at(stock, role, number), tongue.ending_at(stock, other, mate))
                        for number in NUMBERS for mate in NUMBERS]
    return [(one, other) for one, other in couples if len(one) == len(other)]


def _joining(one, other):
    # The wear with the fewest rows that leads both endings to one.
    pieces = hanging_parts(list(zip(one, other)))
    return Wear([(part, piece[0]) for piece in pieces for part in piece[1:]])


def do_match(one, other):
    """Whether two tongues have stocks with the same roles, and in each cell an ending of as many parts."""
    if [stock.borne for stock in one.stocks] != [stock.borne for stock in other.stocks]:
        return False
    return [len(ending) for ending in _endings_in_order(one)] == [len(ending) for ending in _endings_in_order(other)]


def _endings_in_order(tongue):
    return [ending for stock in tongue.stocks for row in stock.table for ending in row[1:]]


def part_couples(one, other):
    """All couples of parts at the same place of the same cell of two tongues that match, in order."""
    endings = list(zip(_endings_in_order(one), _endings_in_order(other)))
    return [couple for ending, mate in endings for couple in zip(ending, mate)]


def wear_between(one, other):
    """The wear that leads the endings of one tongue to those of the other, or None."""
    if not do_match(one, other):
        return None
    led = {}
    for part, mate in part_couples(one, other):
        if led.setdefault(part, mate) != mate:
            return None
    return Wear([(part, led[part]) for part in led])
