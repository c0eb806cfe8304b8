"""Webs: points, and ties that stand with signs in one or two of them."""

from pushtells.checks import check_lot, check_point, check_tie
from pushtells.checks import is_below, is_integer, is_paper, is_sequence, is_sign, is_sign_row
from pushtells.errors import InvalidLot, InvalidRow, InvalidSize, InvalidTies, InvalidWeb
from pushtells.hang import closed_ring, neighbours, sign_row, signs_along, spread, spreads
from pushtells.rows import doubles_of, is_double, ring_points, row_product, tie_cancels, tie_ends, tie_sign, way_points

MOST_POINTS = 1000
MOST_TIES = 3000


class Web:
    def __init__(self, points, ties):
        check_points(points)
        if not is_sequence(ties) or len(ties) > MOST_TIES:
            raise InvalidTies(-1)
        for at, tie in enumerate(ties):
            if not is_tie(tie, points):
                raise InvalidTies(at)
        self.points = points
        self.ties = tuple([ordered_tie(tie) for tie in ties])

    def __eq__(self, other):
        return isinstance(other, Web) and self.points == other.points and self.ties == other.ties


def check_points(points):
    """Webs have so many points at least and at most."""
    if not is_integer(points) or not 1 <= points <= MOST_POINTS:
        raise InvalidSize("points")


def is_tie(value, points):
    """Whether any value is a tie of so many points."""
    if not is_sequence(value) or len(value) not in (2, 4):
        return False
    if not is_below(value[0], points) or not is_sign(value[1]):
        return False
    return len(value) == 2 or (is_below(value[2], points) and is_sign(value[3]) and value[0] != value[2])


def ordered_tie(tie):
    """A tie as a tuple with its lesser point first."""
    if is_double(tie) and tie[0] > tie[2]:
        return (tie[2], tie[3], tie[0], tie[1])
    return tuple(tie)


def check_web(web, at=-1):
    if not isinstance(web, Web):
        raise InvalidWeb(at)


def point_ties(web, point):
    """The numbers of the ties that stand at a point, ascending."""
    check_web(web)
    check_point(web, point)
    return tuple([number for number, tie in enumerate(web.ties) if point in (tie[0], tie[-2])])


def tie_kind(web, tie):
    """Whether a tie is "loose", "even" or "odd"."""
    check_web(web)
    check_tie(web, tie)
    told = web.ties[tie]
    if not is_double(told):
        return "loose"
    return "even" if tie_sign(told) == 1 else "odd"


def turned(web, points):
    """The web with all signs at these points turned."""
    check_web(web)
    check_lot(points, web.points)
    turns = {point: -1 for point in points}
    return Web(web.points, [turned_tie(tie, turns) for tie in web.ties])


def turned_tie(tie, turns):
    """The tie with each sign times what its point turns it by."""
    told = []
    for point, sign in tie_ends(tie):
        told.extend([point, sign * turns.get(point, 1)])
    return told


def struck(web, ties):
    """The web without these ties."""
    check_web(web)
    check_lot(ties, len(web.ties))
    gone = set(ties)
    return Web(web.points, [tie for number, tie in enumerate(web.ties) if number not in gone])


def part_of(web, points):
    """These points as a web of their own, and the numbers of the ties that it has."""
    check_web(web)
    check_lot(points, web.points)
    if not points:
        raise InvalidLot(-1)
    places = {point: place for place, point in enumerate(sorted(points))}
    kept = [number for number, tie in enumerate(web.ties) if all([point in places for point, _ in tie_ends(tie)])]
    return Web(len(points), [moved_tie(web.ties[number], places) for number in kept]), tuple(kept)


def moved_tie(tie, places):
    """The tie with other numbers of its points."""
    told = []
    for point, sign in tie_ends(tie):
        told.extend([places[point], sign])
    return told


def side_by_side(one, other):
    """One web with the points and ties of both, the other's behind the one's."""
    check_web(one, 0)
    check_web(other, 1)
    check_points(one.points + other.points)
    if len(one.ties) + len(other.ties) > MOST_TIES:
        raise InvalidSize("ties")
    places = {point: one.points + point for point in range(other.points)}
    return Web(one.points + other.points, list(one.ties) + [moved_tie(tie, places) for tie in other.ties])


def way_ends(web, way):
    """Where a way of one tie or more begins and ends."""
    check_web(web)
    along = way_points(web.ties, way) if is_sequence(way) else None
    if along is None:
        raise InvalidRow(-1)
    return along[0], along[-1]


def row_sign(web, row):
    """The sign of a way or a ring."""
    check_web(web)
    if not is_sequence(row):
        raise InvalidRow(-1)
    if len(row) > 0 and way_points(web.ties, row) is None and ring_points(web.ties, row) is None:
        raise InvalidRow(-1)
    return row_product(web.ties, row)


def web_spreads(web):
    """For each component what is reached from its least point by ties of two points."""
    return spreads(neighbours(web.points, web.ties, doubles_of(web.ties)), list(range(web.points)))


def components(web):
    """The lots of points that hang together."""
    check_web(web)
    return tuple([tuple(sorted(ups)) for ups in web_spreads(web)])


def ring_count(web):
    """For each component its ties of two points less its points and 1 more."""
    check_web(web)
    doubles = doubles_of(web.ties)
    counts = []
    for ups in web_spreads(web):
        inner = len([number for number in doubles if web.ties[number][0] in ups])
        counts.append(inner - len(ups) + 1)
    return tuple(counts)


def spread_about(web, point):
    """What is reached from the least point of a point's component."""
    beside = neighbours(web.points, web.ties, doubles_of(web.ties))
    return spread(beside, [min(list(spread(beside, [point])))])


def parity_paper(web, point):
    """Signs by which all ties of two points of a point's component cancel, or an odd ring there."""
    check_web(web)
    check_point(web, point)
    ups = spread_about(web, point)
    signs = sign_row(web.points, signs_along(web.ties, ups))
    for number in doubles_of(web.ties):
        tie = web.ties[number]
        if tie[0] in ups and not tie_cancels(tie, signs):
            return "odd", closed_ring(web.ties, ups, number)
    return "even", signs


def parity_holds(web, point, value):
    """Whether any value is such a paper, the signs as they are or all turned."""
    check_web(web)
    check_point(web, point)
    ups = spread_about(web, point)
    if is_paper(value, "even", 2):
        return is_sign_row(value[1], web.points) and is_level(web, ups, value[1])
    if is_paper(value, "odd", 2) and isinstance(value[1], tuple):
        along = ring_points(web.ties, value[1])
        return along is not None and along[0] in ups and row_product(web.ties, value[1]) == -1
    return False


def is_level(web, inside, signs):
    """Whether just the points inside have signs, and all ties of two points there cancel by them."""
    if any([(signs[point] != 0) != (point in inside) for point in range(web.points)]):
        return False
    return all([tie_cancels(tie, signs) for tie in web.ties if is_double(tie) and tie[0] in inside])
