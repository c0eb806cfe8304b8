"""The judge of single blocks' papers: ties told in a form that holds by itself."""

from pushtells.checks import is_lot, is_paper, is_sign_row, is_tuple
from pushtells.hang import neighbours, spread
from pushtells.rows import are_doubles, points_of, ring_points, row_product, tie_cancels, way_points
from pushtells.shapes import PAIRS, ROUNDS, joined


def told_ties(ties, points, paper):
    """The ties of any value that is a "tie", "odd", "even", "chain" or "four" paper by itself, else None."""
    if is_paper(paper, "tie", 2):
        return (paper[1],) if are_doubles(ties, [paper[1]]) else None
    if is_paper(paper, "odd", 2):
        return paper[1] if is_ring_of(ties, paper[1], -1) else None
    if is_paper(paper, "even", 2):
        return paper[1] if is_ring_of(ties, paper[1], 1) else None
    if is_paper(paper, "chain", 2):
        return chain_ties(ties, paper[1])
    if is_paper(paper, "four", 3):
        return four_ties(ties, points, paper[1], paper[2])
    return None


def is_ring_of(ties, value, sign):
    """Whether any value is a tuple that is a ring of this sign."""
    return isinstance(value, tuple) and ring_points(ties, value) is not None and row_product(ties, value) == sign


def link_ways(ties, link):
    """The one way of a single tie, both ways of a bead; None for any other value."""
    if is_paper(link, "tie", 2):
        ways = [(link[1],)]
    elif is_paper(link, "bead", 3):
        ways = [link[1], link[2]]
    else:
        return None
    if any([not isinstance(way, tuple) or way_points(ties, way) is None for way in ways]):
        return None
    return ways


def chain_ties(ties, links):
    """The ties of any value that is the links of a chain, else None."""
    if not isinstance(links, tuple) or len(links) < 2:
        return None
    parts = [link_ways(ties, link) for link in links]
    if any([ways is None for ways in parts]):
        return None
    beads = [ways for ways in parts if len(ways) == 2]
    if not beads or any([row_product(ties, ways[0] + ways[1]) == 1 for ways in beads]):
        return None
    ends = way_points(ties, parts[0][0])
    if not closes(ties, parts, ends[0]) and not closes(ties, parts, ends[-1]):
        return None
    return joined(joined(parts))


def closes(ties, parts, begin):
    """Whether the links lead on from a point through unlike points, and back to it.

    That no tie is told twice is for the caller to see, who knows which ties are due.
    """
    point = begin
    passed = []
    for ways in parts:
        alongs = [along_from(ties, way, point) for way in ways]
        if None in alongs or len({along[-1] for along in alongs}) > 1:
            return False
        point = alongs[0][-1]
        passed.append(point)
        for along in alongs:
            passed.extend(along[1:-1])
    return point == begin and len(set(passed)) == len(passed)


def along_from(ties, way, begin):
    """The points of a way from where it begins, or None if it does not begin there."""
    along = way_points(ties, way)
    if len(way) == 1 and along[-1] == begin:
        return along[::-1]
    return along if along[0] == begin else None


def four_ties(ties, points, corners, ways):
    """The ties of any values that are the corners and the ways of a four, else None."""
    if not is_lot(corners, points) or len(corners) != 4 or not is_tuple(ways, 6):
        return None
    passed = list(corners)
    for (one, other), way in zip(PAIRS, ways):
        along = way_points(ties, way) if isinstance(way, tuple) else None
        if along is None or (along[0], along[-1]) != (corners[one], corners[other]):
            return None
        passed.extend(along[1:-1])
    if any([row_product(ties, ways[a] + ways[b] + ways[c]) == 1 for a, b, c in ROUNDS]):
        return None
    return joined(ways) if len(set(passed)) == len(passed) else None


def is_bad_piece(points, ties, told, signs):
    """Whether any values are a bad piece: a lot of its ties, and the signs by which they cancel."""
    if not is_lot(told, len(ties)) or not are_doubles(ties, told) or not is_sign_row(signs, points):
        return False
    inside = points_of(ties, told)
    if len(told) <= len(inside) or [point for point in range(points) if signs[point] != 0] != inside:
        return False
    hanging = spread(neighbours(points, ties, told), [inside[0]])
    return len(hanging) == len(inside) and all([tie_cancels(ties[number], signs) for number in told])
