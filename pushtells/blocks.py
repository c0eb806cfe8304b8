"""Blocks: the ties that lie on common rings, and of what kind they are."""

from pushtells.checks import is_paper, lot_fault
from pushtells.errors import InvalidBlock
from pushtells.faults import least_bad, paper_ties, piece_signs
from pushtells.leads import is_bad_piece, told_ties
from pushtells.rows import doubles_of
from pushtells.shapes import shape_of
from pushtells.splits import split_blocks
from pushtells.webs import check_web


def blocks(web):
    """The blocks of a web, each a lot of ties."""
    check_web(web)
    return tuple(split_blocks(web.points, web.ties, doubles_of(web.ties)))


def checked_block(web, block):
    """The lot of ties that any value tells, if it is a block of the web."""
    check_web(web)
    if lot_fault(block, len(web.ties)) is not None or tuple(sorted(block)) not in blocks(web):
        raise InvalidBlock(-1)
    return tuple(sorted(block))


def block_kind(web, block):
    """Of which of the six kinds a block is."""
    lot = checked_block(web, block)
    shape = shape_of(web.ties, lot)
    return "bad" if shape is None else shape[0]


def block_paper(web, block):
    """What shows of which kind a block is."""
    lot = checked_block(web, block)
    shape = shape_of(web.ties, lot)
    if shape is not None:
        return shape
    told = paper_ties(least_bad(web.points, web.ties, (lot,)))
    return "bad", told, piece_signs(web.points, web.ties, told)


def block_holds(web, block, value):
    """Whether any value is such a paper."""
    lot = checked_block(web, block)
    if is_paper(value, "bad", 3):
        told = value[1]
        return is_bad_piece(web.points, web.ties, told, value[2]) and all([number in lot for number in told])
    told = told_ties(web.ties, web.points, value)
    return told is not None and tuple(sorted(told)) == lot
