"""Outlines of sayings, mirrored tongues, and free verbs that leave clauses in doubt."""

from looseorder.blocks import check_no_free_clauses
from looseorder.coincide import shown_alike
from looseorder.errors import NotFree
from looseorder.flat import choices_of
from looseorder.names import LETTERS
from looseorder.nested import check_depth, frames_with_clause, frames_without_clause
from looseorder.patterns import bearers_of_role, rows_of_frame
from looseorder.sayings import Saying
from looseorder.tongues import Tongue

WALKED_DEPTH = 3


def count_outlines(tongue, depth):
    """How many unlike outlines the sayings with so many verbs have."""
    check_depth(depth)
    check_no_free_clauses(tongue)
    if tongue.verbs == "free":
        return sum([len(frame.nouns) + 1 for frame in tongue.frames]) if depth == 1 else 0
    many = len(frames_without_clause(tongue))
    places = sum([len(_clause_places(tongue, frame)) for frame in frames_with_clause(tongue)])
    for _ in range(depth - 1):
        many *= places
    return many


def _clause_places(tongue, frame):
    # The places among its things at which the rules let the clause of a frame stand.
    told = tongue.frames[frame]
    ahead = [role for role in told.nouns if tongue.is_ahead(role, told.clause)]
    behind = [role for role in told.nouns if tongue.is_ahead(told.clause, role)]
    return list(range(len(ahead), len(told.nouns) - len(behind) + 1))


def all_outlines(tongue, depth):
    """All outlines of sayings with so many verbs: by their frames, then by the places of their clauses."""
    check_depth(depth, WALKED_DEPTH)
    check_no_free_clauses(tongue)
    if tongue.verbs == "free":
        # No frame has a clause role, so there is no greater depth.
        frames = list(range(len(tongue.frames))) if depth == 1 else []
        for frame in frames:
            nouns = len(tongue.frames[frame].nouns)
            for place in range(nouns + 1):
                yield (*_nouns(place), frame, *_nouns(nouns - place))
    else:
        frame_rows = [frames_with_clause(tongue)] * (depth - 1) + [frames_without_clause(tongue)]
        for frames in choices_of(frame_rows):
            place_rows = [_clause_places(tongue, frame) for frame in frames[:-1]]
            for places in choices_of(place_rows):
                yield _outline(tongue, frames, places)


def _nouns(many):
    return (None,) * many


def _outline(tongue, frames, places):
    nouns = len(tongue.frames[frames[0]].nouns)
    row = _nouns(nouns)
    if len(places) > 0:
        row = (*_nouns(places[0]), *_outline(tongue, frames[1:], places[1:]), *_nouns(nouns - places[0]))
    return (frames[0], *row) if tongue.verbs == "first" else (*row, frames[0])


def mirrored_tongue(tongue):
    """The tongue with each rule turned about, and verbs at the other end."""
    rules = [(behind, ahead) for ahead, behind in tongue.rules]
    verbs = {"first": "last", "last": "first", "free": "free"}
    return Tongue(tongue.roles, tongue.stocks, tongue.frames, rules, verbs[tongue.verbs])


def mirrored_saying(saying):
    """The saying of the mirrored tongue with the items of each clause in the opposite order."""
    return _mirrored(mirrored_tongue(saying.tongue), saying)


def _mirrored(tongue, saying):
    items = [("clause", item[1], _mirrored(tongue, item[2])) if item[0] == "clause" else item
             for item in reversed(saying.said)]
    return Saying(tongue, saying.frame, items)


def free_pattern(tongue):
    """Two sayings that are heard alike though another noun stands in the clause, or None if there are none."""
    if tongue.verbs != "free":
        raise NotFree()
    for outer in frames_with_clause(tongue):
        for inner in frames_without_clause(tongue):
            for role in _loose_roles(tongue, outer):
                for mate in _loose_within(tongue, inner):
                    alike = shown_alike(tongue, role, mate)
                    if len(alike) > 0:
                        return _two_sayings(tongue, (outer, role), (inner, mate), alike[0])
    return None


def _loose_roles(tongue, frame):
    # The noun roles side by side with the clause role.
    told = tongue.frames[frame]
    return [role for role in told.nouns if tongue.are_beside(role, told.clause)]


def _loose_within(tongue, frame):
    # The noun roles side by side with all other noun roles.
    nouns = tongue.frames[frame].nouns
    return [role for role in nouns if all([tongue.are_beside(role, other) for other in nouns if other != role])]


def _two_sayings(tongue, outer, inner, shown):
    # One noun stands directly ahead of what both clauses hold and one directly behind it: either can be within.
    frame, role = outer
    clause = tongue.frames[frame].clause
    stock, number, mate_number = shown
    row = [order for order in rows_of_frame(tongue, frame) if order.index(clause) == order.index(role) + 1][0]
    at = row.index(role)
    stems = list(LETTERS)
    ahead = _plain_nouns(tongue, row[:at], stems)
    first = stems.pop(0)
    middle = _plain_nouns(tongue, _row_without(tongue, inner), stems)
    last = stems.pop(0)
    behind = _plain_nouns(tongue, row[at + 2:], stems)
    inner_items = [("noun", stem, stock, inner[1], mate_number) for stem in (first, last)]
    one = Saying(tongue, inner[0], [*middle, ("verb",), inner_items[1]])
    other = Saying(tongue, inner[0], [inner_items[0], *middle, ("verb",)])
    near = [("noun", first, stock, role, number), ("clause", clause, one)]
    far = [("clause", clause, other), ("noun", last, stock, role, number)]
    return tuple([Saying(tongue, frame, [*ahead, *both, *behind, ("verb",)]) for both in (near, far)])


def _row_without(tongue, inner):
    frame, mate = inner
    return [role for role in rows_of_frame(tongue, frame)[0] if role != mate]


def _plain_nouns(tongue, roles, stems):
    # Takes its stems from the front of those that are left.
    return [("noun", stems.pop(0), bearers_of_role(tongue, role)[0], role, "one") for role in roles]
