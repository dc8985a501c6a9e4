"""Readings of clauses within clauses, and sayings with other clauses within."""

from looseorder.blocks import blocks_of, chain_of, check_no_free_clauses
from looseorder.errors import BadDepth, BadNest, NoClause
from looseorder.flat import count_flat, role_rows
from looseorder.heard import check_heard
from looseorder.names import is_row, is_whole
from looseorder.patterns import plain_pattern
from looseorder.sayable import most_rows
from looseorder.sayings import PIECES_MOST, Saying
from looseorder.speaking import said_from

DEPTH_MOST = 40
FRAMES_MOST = 7


def things_of(tongue, heard, block):
    """The things and the number that are heard of a block of the row."""
    pieces = check_heard(tongue, heard)
    blocks_of(tongue, pieces)
    return heard_in_block(pieces, block)


def heard_in_block(pieces, block):
    """What things_of returns, for pieces that are right."""
    _, verb, things = block
    return tuple([pieces[thing][2:] if is_whole(thing) else None for thing in things]), pieces[verb][2]


def _heard_by_depth(tongue, heard):
    # The frame, the things and the number of each block, the outermost first.
    pieces = check_heard(tongue, heard)
    return [(block[0], *heard_in_block(pieces, block)) for block in chain_of(blocks_of(tongue, pieces))]


def count_nested(tongue, heard):
    """How many readings a heard row has: the product over its blocks."""
    many = 1
    for frame, things, number in _heard_by_depth(tongue, heard):
        many *= count_flat(tongue, frame, things, number)
    return many


def unsure_depths(tongue, heard):
    """The depths of the blocks with two rows of roles, ascending."""
    heard_blocks = _heard_by_depth(tongue, heard)
    return tuple([depth for depth, (frame, things, number) in enumerate(heard_blocks)
                  if len(role_rows(tongue, frame, things, number)) > 1])


def check_depth(depth, most=DEPTH_MOST):
    """Raises if the depth is no whole number from 1 to the greatest that is let."""
    if not is_whole(depth, 1, most):
        raise BadDepth()


def frames_with_clause(tongue):
    """The frames with a clause role, ascending."""
    return [frame for frame, told in enumerate(tongue.frames) if told.clause is not None]


def frames_without_clause(tongue):
    """The frames without a clause role, ascending."""
    return [frame for frame, told in enumerate(tongue.frames) if told.clause is None]


def most_nested(tongue, depth):
    """The most choices of roles for one heard row with so many verbs, or None if there is none."""
    check_depth(depth)
    check_no_free_clauses(tongue)
    outer = frames_with_clause(tongue)
    if depth > 1 and len(outer) == 0:
        return None
    many = max([most_rows(tongue, frame).many for frame in frames_without_clause(tongue)])
    if depth > 1:
        factor = max([most_rows(tongue, frame).many for frame in outer])
        for _ in range(depth - 1):
            many *= factor
    return many


def with_clause(outer, inner):
    """The saying with another saying in the place of its clause."""
    if outer.inner is None:
        raise NoClause()
    items = [("clause", item[1], inner) if item[0] == "clause" else item for item in outer.said]
    return Saying(outer.tongue, outer.frame, items)


def chain_of_saying(saying):
    """The sayings from the saying itself to the innermost one."""
    return (saying,) if saying.inner is None else (saying, *chain_of_saying(saying.inner))


def nest_frames(tongue, frames):
    """The plain saying with these frames, each in the clause of the one before."""
    if not is_row(frames, 1, FRAMES_MOST):
        raise BadNest(0, "frames")
    for index, frame in enumerate(frames):
        if not is_whole(frame, 0, len(tongue.frames) - 1):
            raise BadNest(index, "frame")
        if (tongue.frames[frame].clause is None) != (index == len(frames) - 1):
            raise BadNest(index, "clause")
    if sum([len(tongue.frames[frame].nouns) + 1 for frame in frames]) > PIECES_MOST:
        raise BadNest(0, "long")
    return said_from(tongue, frames, plain_pattern(tongue, frames[0]), 0)
