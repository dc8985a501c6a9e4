"""Common elders and heirs of two tongues: tongues that wears lead to both, or to which both are led."""

from looseorder.names import LETTERS
from looseorder.needed import hanging_parts
from looseorder.tongues import with_tables
from looseorder.wearing import Wear, do_match, part_couples


class Elder:
    """A tongue, the wear that leads it to one tongue, and the wear that leads its endings to another one's."""

    def __init__(self, tongue, wear, mate):
        self.tongue = tongue
        self.wear = wear
        self.mate = mate

    def __eq__(self, other):
        return (isinstance(other, Elder) and self.tongue == other.tongue and self.wear == other.wear
                and self.mate == other.mate)


class Heir:
    """A tongue, the wear that leads one tongue to it, and the wear that leads another one's endings to its own."""

    def __init__(self, tongue, wear, mate):
        self.tongue = tongue
        self.wear = wear
        self.mate = mate

    def __eq__(self, other):
        return (isinstance(other, Heir) and self.tongue == other.tongue and self.wear == other.wear
                and self.mate == other.mate)


def _part_at(place):
    # The parts "a" to "z", then "aa", "ab" and so on.
    many = len(LETTERS)
    return LETTERS[place] if place < many else LETTERS[place // many - 1] + LETTERS[place % many]


def _named(things):
    # A part for each unlike thing, in the order in which they come first.
    parts = {}
    for thing in things:
        if thing not in parts:
            parts[thing] = _part_at(len(parts))
    return parts


def _with_parts(tongue, parts):
    # The tongue whose endings have these parts, in their order, in the place of its own.
    left = list(parts)
    return with_tables(tongue, [[(role, _next_ending(one, left), _next_ending(many, left))
                                 for role, one, many in stock.table] for stock in tongue.stocks])


def _next_ending(ending, left):
    return tuple([left.pop(0) for _ in ending])


def common_elder(one, other):
    """The tongue with the fewest parts that wears lead to the endings of both, or None."""
    if not do_match(one, other):
        return None
    couples = part_couples(one, other)
    parts = _named(couples)
    wear = Wear([(parts[couple], couple[0]) for couple in parts])
    mate = Wear([(parts[couple], couple[1]) for couple in parts])
    return Elder(_with_parts(one, [parts[couple] for couple in couples]), wear, mate)


def common_heir(one, other):
    """The tongue with the most parts to which wears lead the endings of both, or None."""
    if not do_match(one, other):
        return None
    # A part of the one and a part of the other are unlike things, also if they are written alike.
    couples = [((0, part), (1, mate)) for part, mate in part_couples(one, other)]
    pieces = {thing: place for place, piece in enumerate(hanging_parts(couples)) for thing in piece}
    parts = _named([pieces[couple[0]] for couple in couples])
    wears = [Wear([(part, parts[pieces[(side, part)]]) for told, part in pieces if told == side]) for side in (0, 1)]
    return Heir(_with_parts(one, [parts[pieces[couple[0]]] for couple in couples]), wears[0], wears[1])
