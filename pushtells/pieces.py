"""The first court: may tightening be trusted to see whether anything fits?"""

from pushtells.blocks import blocks
from pushtells.checks import is_paper, is_tuple
from pushtells.errors import Refused
from pushtells.faults import find_fault, least_bad, paper_ties, piece_signs
from pushtells.leads import is_bad_piece, is_ring_of, told_ties
from pushtells.rows import are_doubles, doubles_of, points_of, ring_points, row_product, tie_sign, way_points
from pushtells.shapes import even_count, joined, shape_of
from pushtells.webs import check_points, check_web, components


def web_fault(web):
    """What speaks against the web, as `find_fault` tells it."""
    return find_fault(web.points, web.ties, doubles_of(web.ties))


def court1(web):
    """Whether the court says yes."""
    check_web(web)
    return not web_fault(web)


def court1_paper(web):
    """What shows that the court says yes, or no."""
    check_web(web)
    fault = web_fault(web)
    if fault:
        told = paper_ties(least_bad(web.points, web.ties, fault))
        return "no", told, piece_signs(web.points, web.ties, told)
    return "yes", block_rows(web)


def block_rows(web):
    """For each component the papers of its blocks."""
    rows = {lot: [] for lot in components(web)}
    homes = {point: lot for lot in rows for point in lot}
    for block in blocks(web):
        rows[homes[web.ties[block[0]][0]]].append(shape_of(web.ties, block))
    return tuple([tuple(row) for row in list(rows.values())])


def court1_holds(web, value):
    """Whether any value is such a paper."""
    check_web(web)
    if is_paper(value, "no", 3):
        return is_bad_piece(web.points, web.ties, value[1], value[2])
    lots = components(web)
    if not is_paper(value, "yes", 2) or not is_tuple(value[1], len(lots)):
        return False
    return all([is_block_row(web, lot, row) for lot, row in zip(lots, value[1])])


def is_block_row(web, lot, row):
    """Whether any value is the papers of a component's blocks, in any order."""
    if not isinstance(row, tuple):
        return False
    told = [told_ties(web.ties, web.points, paper) for paper in row]
    if any([part is None for part in told]):
        return False
    inside = {point: True for point in lot}
    due = [number for number in doubles_of(web.ties) if web.ties[number][0] in inside]
    if sorted(joined(told)) != due or len([paper for paper in row if paper[0] not in ("tie", "odd")]) > 1:
        return False
    # Parts hung on one another in a ring would have fewer points than this.
    return sum([len(points_of(web.ties, part)) - 1 for part in told]) == len(lot) - 1


def bad_paper(web):
    """A least bad piece, or None if the court says yes."""
    check_web(web)
    fault = web_fault(web)
    return least_bad(web.points, web.ties, fault) if fault else None


def bad_holds(web, value):
    """Whether any value is such a paper."""
    check_web(web)
    if value is None:
        return court1(web)
    if is_paper(value, "ways", 2):
        return are_like_ways(web.ties, value[1])
    return is_paper(value, "rings", 4) and are_joined_rings(web.ties, value[1], value[2], value[3])


def are_like_ways(ties, ways):
    """Whether any value is three ways of one sign between two points, apart but there."""
    if not is_tuple(ways, 3) or not all([isinstance(way, tuple) for way in ways]):
        return False
    alongs = [way_points(ties, way) for way in ways]
    if None in alongs or len({row_product(ties, way) for way in ways}) > 1:
        return False
    if alongs[0][0] > alongs[0][-1] or len({(along[0], along[-1]) for along in alongs}) > 1:
        return False
    inner = [point for along in alongs for point in along[1:-1]]
    numbers = joined(ways)
    return len(set(inner)) == len(inner) and len(set(numbers)) == len(numbers)


def are_joined_rings(ties, one, other, way):
    """Whether any values are two even rings, and a way from the one to the other."""
    if not is_ring_of(ties, one, 1) or not is_ring_of(ties, other, 1) or not isinstance(way, tuple):
        return False
    begins, ends = ring_points(ties, one), ring_points(ties, other)
    common = [point for point in begins if point in ends]
    if common:
        return len(common) == 1 and way == ()
    along = way_points(ties, way)
    if along is None or any([point in begins or point in ends for point in along[1:-1]]):
        return False
    if len(way) == 1 and along[0] in ends:
        along = along[::-1]
    return along[0] in begins and along[-1] in ends


def even_rings(web):
    """For each component how many even rings it has."""
    check_web(web)
    if web_fault(web):
        raise Refused(-1)
    return tuple([sum([even_count(paper) for paper in row]) for row in block_rows(web)])


def most_ties(points):
    """How many ties of two points there may be at most where the court says yes."""
    check_points(points)
    return 0 if points == 1 else 2 * points


def is_full(web):
    """Whether the court says yes, and no tie of two points could be added."""
    return web.points > 1 and len(doubles_of(web.ties)) == most_ties(web.points) and court1(web)


def full_paper(web):
    """All ties of two points in pairs of an even and an odd one, if the web is full."""
    check_web(web)
    if not is_full(web):
        return ("less",)
    sides = {1: {}, -1: {}}
    for number in doubles_of(web.ties):
        tie = web.ties[number]
        sides[tie_sign(tie)].setdefault((tie[0], tie[2]), []).append(number)
    pairs = [pair for ends, evens in sides[1].items() for pair in zip(evens, sides[-1][ends])]
    return "full", tuple(sorted(pairs))


def full_holds(web, value):
    """Whether any value is such a paper."""
    check_web(web)
    if is_paper(value, "less", 1):
        return not is_full(web)
    if not is_paper(value, "full", 2) or not isinstance(value[1], tuple):
        return False
    if not all([is_level_pair(web.ties, pair) for pair in value[1]]):
        return False
    numbers = joined(value[1])
    return is_full(web) and sorted(numbers) == doubles_of(web.ties) and list(value[1]) == sorted(value[1])


def is_level_pair(ties, pair):
    """Whether any value is an even tie and an odd one between the same two points."""
    if not is_tuple(pair, 2) or not are_doubles(ties, pair):
        return False
    even, odd = ties[pair[0]], ties[pair[1]]
    return tie_sign(even) == 1 and tie_sign(odd) == -1 and (even[0], even[2]) == (odd[0], odd[2])
