"""Lots of roles: the greatest that is all side by side, and the fewest chains."""

from looseorder.coincide import couples_of
from looseorder.errors import BadLot
from looseorder.names import are_unlike_of, is_each_once, is_row, is_whole
from looseorder.rulings import first_row
from looseorder.sayable import lots_of


class Wide:
    """A greatest lot of roles side by side, and as many chains of all the roles."""

    def __init__(self, lot, chains):
        self.lot = lot
        self.chains = chains

    def __eq__(self, other):
        return isinstance(other, Wide) and self.lot == other.lot and self.chains == other.chains


def check_lot(tongue, lot):
    """The lot of unlike roles, ascending."""
    if not is_row(lot):
        raise BadLot(0)
    for place, role in enumerate(lot):
        if not is_whole(role, 0, len(tongue.roles) - 1) or role in lot[:place]:
            raise BadLot(place)
    return tuple(sorted(lot))


def _are_all_beside(tongue, lot):
    return all([tongue.are_beside(role, other) for role, other in couples_of(lot)])


def _greatest_beside(tongue, told):
    lots = [lot for size in range(len(told) + 1) for lot in lots_of(told, size)]
    return [lot for lot in lots if _are_all_beside(tongue, lot)][-1]


def widest(tongue, lot):
    """A greatest lot of these roles that are side by side, and the fewest chains that hold all of them."""
    told = check_lot(tongue, lot)
    wide = _greatest_beside(tongue, told)
    return Wide(wide, _chains_of(tongue, first_row(tongue.closure, told), len(wide), ()))


def _chains_of(tongue, row, many, chains):
    # At most so many chains that hold the ones given and the row, of which no role is ahead of an earlier one.
    if len(row) == 0:
        return chains
    for at, chain in enumerate(chains):
        if tongue.is_ahead(chain[-1], row[0]):
            longer = (*chains[:at], (*chain, row[0]), *chains[at + 1:])
            found = _chains_of(tongue, row[1:], many, longer)
            if found is not None:
                return found
    if len(chains) == many:
        return None
    return _chains_of(tongue, row[1:], many, (*chains, (row[0],)))


def wide_fault(tongue, lot, wide):
    """The first word that tells why this is no greatest lot with as many chains, or None."""
    told = check_lot(tongue, lot)
    if not are_unlike_of(wide.lot, told):
        return "lot"
    if not _are_all_beside(tongue, wide.lot):
        return "beside"
    if not is_row(wide.chains) or not all([is_row(chain, 1) for chain in wide.chains]):
        return "chains"
    if not is_each_once([role for chain in wide.chains for role in chain], told):
        return "part"
    for chain in wide.chains:
        if not all([tongue.is_ahead(role, behind) for role, behind in zip(chain, chain[1:])]):
            return "chain"
    return None if len(wide.lot) == len(wide.chains) else "many"
