"""The fewest endings with which a stock tells its roles, and its numbers too."""

from looseorder.coincide import couples_of
from looseorder.names import LETTERS
from looseorder.sayable import lots_of
from looseorder.tongues import check_stock


class Fewest:
    """The least count of endings, and a colour for each role."""

    def __init__(self, least, colours):
        self.least = least
        self.colours = colours

    def __eq__(self, other):
        return isinstance(other, Fewest) and self.least == other.least and self.colours == other.colours


class FewestPairs:
    """The least count of endings, and colours for one and for many of each role."""

    def __init__(self, least, pairs):
        self.least = least
        self.pairs = pairs

    def __eq__(self, other):
        return isinstance(other, FewestPairs) and self.least == other.least and self.pairs == other.pairs


def conflict_web(tongue, stock):
    """The couples of roles of the stock that are side by side in one frame, ascending."""
    check_stock(tongue, stock)
    couples = couples_of(tongue.stocks[stock].borne)
    return tuple([couple for couple in couples if _are_in_conflict(tongue, couple[0], couple[1])])


def _are_in_conflict(tongue, role, other):
    together = [role in frame.nouns and other in frame.nouns for frame in tongue.frames]
    return any(together) and tongue.are_beside(role, other)


def fewest_endings(tongue, stock):
    """The fewest endings that tell the roles of the stock apart where order does not."""
    web = conflict_web(tongue, stock)
    borne = tongue.stocks[stock].borne
    least, lots = first_colours(borne, web, [1] * len(borne))
    return Fewest(least, tuple([(role, lot[0]) for role, lot in zip(borne, lots)]))


def fewest_for_numbers(tongue, stock):
    """The fewest endings that tell roles apart, and numbers too where the verb does not."""
    web = conflict_web(tongue, stock)
    borne = tongue.stocks[stock].borne
    least, lots = first_colours(borne, web, [2 if does_need_two(tongue, role) else 1 for role in borne])
    return FewestPairs(least, tuple([(role, lot[0], lot[-1]) for role, lot in zip(borne, lots)]))


def does_need_two(tongue, role):
    """Whether the role is a noun role, but not the agreed one, of some frame."""
    return any([role in frame.nouns and role != frame.agreed for frame in tongue.frames])


def first_colours(nodes, web, sizes):
    """The least count of colours, and the first row of lots of colours, one lot of each size for each node.

    The nodes of a couple of the web share no colour.
    """
    told = dict(zip(nodes, sizes))
    # The nodes of a joined lot have unlike colours, so there is no row with fewer.
    least = max([sum([told[node] for node in lot]) for lot in joined_lots(nodes, web)])
    lots = _coloured(nodes, web, sizes, least, ())
    while lots is None:
        least += 1
        lots = _coloured(nodes, web, sizes, least, ())
    return least, lots


def joined_lots(nodes, web):
    """All lots of nodes any two of which are a couple of the web, a greatest one last."""
    joined = set(web)
    found = []
    longer = [()]
    while len(longer) > 0:
        found += longer
        longer = [(*lot, node) for lot in longer for node in nodes if all([(mate, node) in joined for mate in lot])]
    return found


def _coloured(nodes, web, sizes, many, lots):
    # The first row with these lots ahead, or None if so many colours are too few.
    if len(lots) == len(nodes):
        return lots
    node = nodes[len(lots)]
    used = [colour for lot in lots for colour in lot]
    barred = [colour for mate, lot in zip(nodes, lots) if (mate, node) in web for colour in lot]
    size = sizes[len(lots)]
    # Colours that nobody has are all alike, so only the first of them are tried.
    near = min(many, max([-1, *used]) + 1 + size)
    for lot in lots_of([colour for colour in range(near) if colour not in barred], size):
        found = _coloured(nodes, web, sizes, many, (*lots, lot))
        if found is not None:
            return found
    return None


def with_fewest(tongue, *, numbers=False):
    """The tongue with tables of the fewest endings, one letter each."""
    found = tongue
    for stock in range(len(tongue.stocks)):
        if numbers:
            rows = fewest_for_numbers(tongue, stock).pairs
        else:
            rows = [(role, colour, colour) for role, colour in fewest_endings(tongue, stock).colours]
        found = found.with_stock(stock, [(role, (LETTERS[one],), (LETTERS[many],)) for role, one, many in rows])
    return found
