"""Webs of accounts and webs of like signs: how they are made, turned, and how many ties they may have."""

from pushtells.checks import is_below, is_sequence
from pushtells.errors import InvalidTies
from pushtells.hang import signs_along
from pushtells.rows import is_double, tie_cancels
from pushtells.webs import MOST_TIES, Web, check_points, check_web, web_spreads


def check_told_ties(points, ties, fit):
    """Points and ties of a web, each of these as a function wants it."""
    check_points(points)
    if not is_sequence(ties) or len(ties) > MOST_TIES:
        raise InvalidTies(-1)
    for at, told in enumerate(ties):
        if not is_sequence(told) or not fit(told, points):
            raise InvalidTies(at)


def is_posting(told, points):
    """Whether a sequence is a pair of unlike points, or of a point and None."""
    if len(told) != 2 or not all([point is None or is_below(point, points) for point in told]):
        return False
    return told[0] != told[1]


def accounts_web(points, postings):
    """The web of postings (from, to), None for what lies outside."""
    check_told_ties(points, postings, is_posting)
    return Web(points, [posting_tie(told) for told in postings])


def posting_tie(told):
    """The tie of a posting."""
    if told[0] is None:
        return (told[1], 1)
    return (told[0], -1) if told[1] is None else (told[0], -1, told[1], 1)


def is_alike(told, points):
    """Whether a sequence is a pair of unlike points, or one point."""
    if not all([is_below(point, points) for point in told]):
        return False
    return len(told) == 1 or (len(told) == 2 and told[0] != told[1])


def alike_web(points, ties):
    """The web of ties (point, point) or (point,), all signs 1."""
    check_told_ties(points, ties, is_alike)
    return Web(points, [alike_tie(told) for told in ties])


def alike_tie(told):
    """The tie of these points, all its signs 1."""
    return (told[0], 1) if len(told) == 1 else (told[0], 1, told[1], 1)


def even_turning(web):
    """The points to be turned such that all ties of two points are even, or None."""
    check_web(web)
    return turning(web, web.ties)


def odd_turning(web):
    """The points to be turned such that all ties of two points are odd, or None."""
    check_web(web)
    return turning(web, [(tie[0], -tie[1]) + tie[2:] for tie in web.ties])


def turning(web, ties):
    """The points, none the least one of its component, to be turned such that these ties are even, or None."""
    signs = {}
    for ups in web_spreads(web):
        signs.update(signs_along(ties, ups))
    if not all([tie_cancels(tie, signs) for tie in ties if is_double(tie)]):
        return None
    return tuple([point for point in range(web.points) if signs[point] == -1])


def most_alike(points):
    """How many ties of two points a web of like signs may have where the first court says yes."""
    check_points(points)
    return 2 * (points - 1) if points < 3 else 3 * points // 2


def most_plain(points):
    """How many ties, no two between the same points, a web may have where the first court says yes."""
    check_points(points)
    return points * (points - 1) // 2 if points < 4 else 3 * points // 2


def fullest_alike(points):
    """Some web of like signs with so many ties."""
    check_points(points)
    if points < 4:
        # One tie of the triangle twice, of two points their one tie.
        return alike_web(points, plain_pairs(points) + plain_pairs(min(points, 2)))
    return alike_web(points, plain_pairs(points))


def fullest_plain(points):
    """Some web with so many ties, no two between the same points."""
    check_points(points)
    return alike_web(points, plain_pairs(points))


def plain_pairs(points):
    """The points of ties all of which are odd: so many as can be, no two alike, such that the court says yes."""
    if points < 5 or points & 1 == 0:
        first = min(points, 4)
        pairs = [(one, other) for other in range(first) for one in range(other)]
    else:
        # Two triangles and a tie in a ring.
        first, pairs = 5, [(0, 1), (0, 2), (1, 2), (1, 3), (1, 4), (3, 4), (0, 3)]
    for point in range(first, points, 2):
        pairs.extend([(0, point), (0, point + 1), (point, point + 1)])
    return pairs
