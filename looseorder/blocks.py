"""Blocks: the clauses of a heard row, and of a talk of several rows."""

from looseorder.errors import BadBlocks, BadHeard, BadTalk, FreeClauses
from looseorder.heard import check_heard
from looseorder.names import in_tuples, is_row, is_whole
from looseorder.sayings import PIECES_MOST

TALK_MOST = 60


def check_no_free_clauses(tongue):
    """Raises if verbs are free and some frame has a clause role."""
    if tongue.verbs == "free" and any([frame.clause is not None for frame in tongue.frames]):
        raise FreeClauses()


def blocks_of(tongue, heard):
    """The one block that a heard row is: its frame, the place of its verb, and its things as heard."""
    pieces = check_heard(tongue, heard)
    check_no_free_clauses(tongue)
    left = _things_left(tongue, pieces)
    if len(left) != 1 or is_whole(left[0]):
        raise BadBlocks(len(pieces))
    return left[0]


def _things_left(tongue, pieces):
    # The places of nouns and the blocks that are in no block, in the order heard.
    if tongue.verbs == "free":
        return _left_by_counting(tongue, pieces)
    return _left_by_taking(tongue, pieces)


def _left_by_taking(tongue, pieces):
    # A verb that stands first takes what is behind it, so all goes from the last piece on and the other way round.
    way = 1 if tongue.verbs == "last" else -1
    left = []
    for place in list(range(len(pieces)))[::way]:
        if pieces[place][0] == "noun":
            left.append(place)
        else:
            many = len(tongue.frames[pieces[place][1]].slots)
            block = (pieces[place][1], place, tuple(left[-many:][::way]))
            if not _can_take(tongue.frames[block[0]], block):
                raise BadBlocks(place)
            left = [*left[:-many], block]
    return left[::way]


def _can_take(frame, block):
    clauses = [thing for thing in block[2] if not is_whole(thing)]
    if len(block[2]) != len(frame.slots) or len(clauses) != len(frame.slots) - len(frame.nouns):
        return False
    first, behind = span_of(block)
    return behind - first <= PIECES_MOST


def _left_by_counting(tongue, pieces):
    # Free verbs have no clauses here, so each block is the first pieces that are left, as many as its verb asks.
    left = []
    first = 0
    while first < len(pieces):
        verbs = [place for place in range(first, len(pieces)) if pieces[place][0] == "verb"]
        if len(verbs) == 0:
            return left + list(range(first, len(pieces)))
        frame = pieces[verbs[0]][1]
        behind = first + len(tongue.frames[frame].slots) + 1
        if behind > len(pieces) or [place for place in verbs if place < behind] != verbs[:1]:
            raise BadBlocks(verbs[0])
        left.append((frame, verbs[0], tuple([place for place in range(first, behind) if place != verbs[0]])))
        first = behind
    return left


def chain_of(block):
    """The blocks from the block itself to the innermost one."""
    told = in_tuples(block)
    inner = [chain_of(thing) for thing in told[2] if not is_whole(thing)]
    return (told, *inner[0]) if len(inner) > 0 else (told,)


def span_of(block):
    """The place of the first piece of a block, and the place behind its last one."""
    _, verb, things = block
    spans = [(thing, thing + 1) if is_whole(thing) else span_of(thing) for thing in [verb, *things]]
    return min([first for first, _ in spans]), max([behind for _, behind in spans])


def roads_of(tongue, heard):
    """For each piece the frames from the outermost one to its own."""
    roads = {}
    road = ()
    for frame, verb, things in chain_of(blocks_of(tongue, heard)):
        road = (*road, frame)
        for place in [verb, *things]:
            if is_whole(place):
                roads[place] = road
    return tuple([roads[place] for place in range(len(roads))])


def talk_parts(tongue, pieces):
    """The couples (first, behind) of the heard rows in a talk, as heard."""
    told = _checked_talk(tongue, pieces)
    check_no_free_clauses(tongue)
    left = _things_left(tongue, told)
    if any([is_whole(thing) for thing in left]):
        raise BadBlocks(len(told))
    return tuple([span_of(block) for block in left])


def _checked_talk(tongue, pieces):
    if not is_row(pieces, 0, TALK_MOST):
        raise BadTalk(0)
    told = []
    for index, piece in enumerate(pieces):
        try:
            told += check_heard(tongue, [piece])
        except BadHeard:
            raise BadTalk(index) from None
    return told
