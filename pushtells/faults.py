"""What speaks against a web in the first court, and the least bad piece in it."""

from pushtells.hang import neighbours, sign_row, signs_along, spread, trail
from pushtells.rows import doubles_of, points_of
from pushtells.shapes import even_ring, joined, shape_of
from pushtells.splits import split_blocks, split_ties
from pushtells.strands import strands, ties_at


def find_fault(points, ties, chosen):
    """A bad block alone, or two blocks of one component that have even rings; () if there is neither."""
    cores = {}
    for root, block in split_ties(points, ties, chosen):
        shape = shape_of(ties, block)
        if shape is None:
            return (block,)
        if shape[0] not in ("tie", "odd"):
            if root in cores:
                return cores[root], block
            cores[root] = block
    return ()


def least_bad(points, ties, fault):
    """The least bad piece in what a fault tells, as `bad_paper` tells it."""
    if len(fault) == 2:
        rings = [even_ring(ties, shape_of(ties, block)) for block in fault]
        return rings_paper(points, ties, rings)
    kept = shrunk(points, ties, fault[0])
    found = split_blocks(points, ties, kept)
    if len(found) == 1:
        rows = joined(list(strands(ties, ties_at(ties, kept)).values()))
        return "ways", rows
    rings = [shape_of(ties, block)[1] for block in found if len(block) > 1]
    return rings_paper(points, ties, rings)


def rings_paper(points, ties, rings):
    """Two even rings and a way from the one to the other."""
    beside = neighbours(points, ties, doubles_of(ties))
    aims = points_of(ties, rings[1])
    ups = spread(beside, points_of(ties, rings[0]))
    nearest = [point for point in ups if point in aims][0]
    return "rings", rings[0], rings[1], tuple(trail(ups, nearest)[::-1])


def shrunk(points, ties, block):
    """Ties of a bad block that are a bad piece, and are none without any one of them."""
    kept = list(block)
    size = len(kept) // 2
    # Whole stretches go first, for most ties of a great block are soon struck so.
    while size > 0:
        kept = without_stretches(points, ties, kept, size)
        size //= 2
    return kept


def without_stretches(points, ties, kept, size):
    """Without each stretch of so many ties that is not needed for a fault."""
    at = 0
    while at < len(kept):
        tried = kept[:at] + kept[at + size:]
        if find_fault(points, ties, tried):
            kept = tried
        else:
            at += size
    return kept


def paper_ties(paper):
    """The ties of a least bad piece, ascending."""
    rows = paper[1] if paper[0] == "ways" else paper[1:]
    return tuple(sorted(joined(rows)))


def piece_signs(points, ties, told):
    """Signs by which all ties of a bad piece cancel, 0 elsewhere."""
    ups = spread(neighbours(points, ties, told), [ties[told[0]][0]])
    return sign_row(points, signs_along(ties, ups))
