"""Heard rows: what is heard of whole sayings."""

from looseorder.errors import BadHeard
from looseorder.names import in_tuples, is_ending, is_row, is_stem, is_whole
from looseorder.shown import check_places, fits_agreement, heard_number
from looseorder.speaking import pattern_of


def heard_of(saying):
    """The pieces that are heard of a saying, clauses laid out where they stand."""
    tongue = saying.tongue
    pieces = []
    for item in saying.said:
        if item[0] == "noun":
            _, stem, stock, role, number = item
            pieces.append(("noun", stem, stock, tongue.ending_at(stock, role, number)))
        elif item[0] == "clause":
            pieces += heard_of(item[2])
        else:
            number = heard_number(tongue.frames[saying.frame], pattern_of(saying))
            pieces.append(("verb", saying.frame, number))
    return tuple(pieces)


def check_heard(tongue, heard, most=14):
    """The pieces of a heard row in tuples."""
    if not is_row(heard, 1, most):
        raise BadHeard(0, "many")
    stocks = {}
    for index, piece in enumerate(heard):
        what = _piece_fault(tongue, piece, stocks)
        if what is not None:
            raise BadHeard(index, what)
        if piece[0] == "noun":
            stocks[piece[1]] = piece[2]
    return in_tuples(heard)


def _piece_fault(tongue, piece, stocks):
    # The stocks are those of the stems that were heard before.
    if is_row(piece, 4, 4) and piece[0] == "noun":
        return _noun_fault(tongue, piece, stocks)
    if is_row(piece, 3, 3) and piece[0] == "verb":
        return _verb_fault(tongue, piece)
    return "piece"


def _noun_fault(tongue, piece, stocks):
    _, stem, stock, ending = piece
    if not is_stem(stem):
        return "stem"
    if not is_whole(stock, 0, len(tongue.stocks) - 1):
        return "stock"
    if ending is not None and not is_ending(ending):
        return "ending"
    return None if stocks.get(stem, stock) == stock else "double"


def _verb_fault(tongue, piece):
    _, frame, number = piece
    if not is_whole(frame, 0, len(tongue.frames) - 1):
        return "frame"
    return None if fits_agreement(tongue.frames[frame], number) else "number"


def places_of_nouns(heard):
    """The places of the nouns in a heard row."""
    return [place for place, piece in enumerate(heard) if piece[0] == "noun"]


def swallow(heard, places):
    """The pieces with the endings of the nouns at the places swallowed."""
    told = check_places(places, places_of_nouns(heard))
    return in_tuples([(*piece[:3], None) if place in told else piece for place, piece in enumerate(heard)])


def depths_of(saying):
    """For each piece that is heard of a saying, how many clauses stand around its own."""
    depths = []
    for item in saying.said:
        if item[0] == "clause":
            depths += [depth + 1 for depth in depths_of(item[2])]
        else:
            depths.append(0)
    return tuple(depths)


def roles_heard(saying):
    """For each piece that is heard of a saying, the role of a noun and None for a verb."""
    roles = []
    for item in saying.said:
        if item[0] == "clause":
            roles += roles_heard(item[2])
        else:
            roles.append(item[3] if item[0] == "noun" else None)
    return tuple(roles)
