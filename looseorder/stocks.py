"""Stocks of nouns and their tables of endings."""

from looseorder.errors import BadStock
from looseorder.names import NAME_MOST, is_ending, is_name, is_row, is_whole, number_rank


def _checked_table(table):
    if not is_row(table, 1, 6):
        raise BadStock("table")
    last = -1
    for row in table:
        if not is_row(row, 3, 3):
            raise BadStock("row")
        if not is_whole(row[0], last + 1, 5):
            raise BadStock("role")
        if not (is_ending(row[1]) and is_ending(row[2])):
            raise BadStock("ending")
        last = row[0]
    return tuple([(role, tuple(one), tuple(many)) for role, one, many in table])


class Stock:
    """Nouns with one table: the roles they bear and the endings that show these."""

    def __init__(self, name, table):
        if not is_name(name, NAME_MOST):
            raise BadStock("name")
        self.name = name
        self.table = _checked_table(table)

    def __eq__(self, other):
        return isinstance(other, Stock) and self.name == other.name and self.table == other.table

    @property
    def borne(self):
        """The roles that the stock bears, ascending."""
        return tuple([row[0] for row in self.table])

    @property
    def endings(self):
        """The unlike endings of the table, ascending."""
        return tuple(sorted(set([ending for row in self.table for ending in row[1:]])))

    def ending_for(self, role, number):
        """The ending that shows the role in the number, or None if it is not borne."""
        for row in self.table:
            if row[0] == role:
                return row[1 + number_rank(number)]
        return None
