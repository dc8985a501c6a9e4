"""Articles: a further part ahead of the endings of a stock, and how few parts are enough."""

from looseorder.coincide import are_shown_alike, couples_of
from looseorder.endings import conflict_web, does_need_two, first_colours, joined_lots
from looseorder.errors import BadArticle
from looseorder.names import NUMBERS, is_among, is_number, is_part, is_row, is_whole, number_rank
from looseorder.tongues import check_stock

ROWS_MOST = 12


class Articles:
    """The least count of parts, and a colour for each cell."""

    def __init__(self, least, rows):
        self.least = least
        self.rows = rows

    def __eq__(self, other):
        return isinstance(other, Articles) and self.least == other.least and self.rows == other.rows


def _cells_of(tongue, stock):
    return [(role, number) for role in tongue.stocks[stock].borne for number in NUMBERS]


def check_article(tongue, stock, rows):
    """The rows (role, number, part) of an article in the order of the cells."""
    check_stock(tongue, stock)
    if not is_row(rows, 0, ROWS_MOST):
        raise BadArticle(0, "many")
    met = []
    for index, row in enumerate(rows):
        what = _row_fault(tongue.stocks[stock].borne, row, met)
        if what is not None:
            raise BadArticle(index, what)
        met.append((row[0], row[1]))
    return tuple(sorted([tuple(row) for row in rows], key=_rank_of_row))


def _row_fault(borne, row, met):
    if not is_row(row, 3, 3):
        return "row"
    if not is_among(row[0], borne):
        return "role"
    if not is_number(row[1]):
        return "number"
    if not is_part(row[2]):
        return "part"
    return "double" if (row[0], row[1]) in met else None


def _rank_of_row(row):
    return row[0], number_rank(row[1])


def with_article(tongue, stock, rows):
    """The tongue in which each ending of the stock has the part of its cell, or an empty one, ahead."""
    parts = {(role, number): part for role, number, part in check_article(tongue, stock, rows)}
    table = []
    for role, one, many in tongue.stocks[stock].table:
        heads = [parts.get((role, number), "") for number in NUMBERS]
        table.append((role, (heads[0], *one), (heads[1], *many)))
    return tongue.with_stock(stock, table)


def article_web(tongue, stock, wholly=False):
    """All couples of cells that need unlike parts, the earlier cell first, ascending."""
    beside = conflict_web(tongue, stock)
    return tuple([(cell, mate) for cell, mate in couples_of(_cells_of(tongue, stock))
                  if are_shown_alike(tongue, stock, cell, mate)
                  and _need_unlike_parts(tongue, beside, cell[0], mate[0], wholly)])


def _need_unlike_parts(tongue, beside, role, other, wholly):
    if role == other:
        return wholly and does_need_two(tongue, role)
    return (role, other) in beside


def least_articles(tongue, stock, wholly=False):
    """The least count of parts that is enough, and a colour for each cell."""
    web = article_web(tongue, stock, wholly)
    cells = _cells_of(tongue, stock)
    least, lots = first_colours(cells, web, [1] * len(cells))
    return Articles(least, tuple([(*cell, lot[0]) for cell, lot in zip(cells, lots)]))


def article_lot(tongue, stock, wholly=False):
    """A greatest lot of cells any two of which need unlike parts, in the order of the cells."""
    web = article_web(tongue, stock, wholly)
    return joined_lots(_cells_of(tongue, stock), web)[-1]


def articles_fault(tongue, stock, wholly, articles):
    """The first word that tells why these are no fewest parts, or None."""
    web = article_web(tongue, stock, wholly)
    cells = _cells_of(tongue, stock)
    rows, least = articles.rows, articles.least
    if not isinstance(rows, tuple) or len(rows) != len(cells):
        return "cells"
    if not all([_is_row_of(row, cell) for row, cell in zip(rows, cells)]):
        return "cells"
    colours = {(row[0], row[1]): row[2] for row in rows}
    if not is_whole(least, 1, len(cells)) or not _are_all_used(list(colours.values()), least):
        return "colour"
    if any([colours[cell] == colours[mate] for cell, mate in web]):
        return "alike"
    return "fewer" if least_articles(tongue, stock, wholly).least < least else None


def _is_row_of(row, cell):
    return isinstance(row, tuple) and len(row) == 3 and is_whole(row[0]) and row[:2] == cell


def _are_all_used(colours, least):
    return all([is_whole(colour) for colour in colours]) and sorted(set(colours)) == list(range(least))
