"""Tightening: looks at points, rounds of them, and the end to which they come."""

from pushtells.boxes import Box, check_web_box
from pushtells.checks import check_point, is_below, is_sequence
from pushtells.errors import InvalidPoint, Refused
from pushtells.hang import closing_ties, neighbours, spread
from pushtells.looks import bare_point, crossed_tie, left_rows, looked, moved_bounds, point_stars, round_moves
from pushtells.looks import run_rounds
from pushtells.rows import doubles_of
from pushtells.webs import check_web, web_spreads

MOST_LOOKS = 400


def left_at(web, box, point):
    """(tie, least, greatest) for each tie at a point: what the total and the others leave it."""
    check_web_box(web, box)
    check_point(web, point)
    return tuple(left_rows(point_stars(web)[point], box.bounds, box.totals[point]))


def looked_at(web, box, point):
    """The box with all that a look at a point cuts, or None if nothing is left."""
    check_web_box(web, box)
    check_point(web, point)
    bounds = looked(point_stars(web)[point], box.bounds, box.totals[point])
    return None if bounds is None else Box(web, bounds, box.totals)


def looked_along(web, box, points):
    """The box behind looks at these points, or the place of the first one that leaves nothing."""
    check_web_box(web, box)
    check_looks(web, points)
    stars = point_stars(web)
    bounds = box.bounds
    for at, point in enumerate(points):
        bounds = looked(stars[point], bounds, box.totals[point])
        if bounds is None:
            return "nothing", at
    return "box", Box(web, bounds, box.totals)


def check_looks(web, points):
    if not is_sequence(points) or len(points) > MOST_LOOKS:
        raise InvalidPoint(-1)
    for at, point in enumerate(points):
        if not is_below(point, web.points):
            raise InvalidPoint(at)


def is_still(web, box):
    """Whether a look at each point moves nothing."""
    check_web_box(web, box)
    stars = point_stars(web)
    if bare_point(stars, box.totals) is not None:
        return False
    return not round_moves(stars, box.totals, box.bounds, list(range(web.points)))


def tightened(web, box):
    """The box to which looks come, in whatever order, or None if nothing is left."""
    check_web_box(web, box)
    word, _, bounds = run_rounds(web, box)
    return Box(web, bounds, box.totals) if word == "still" else None


def round_box(web, box):
    """The box behind a look at all points at once, or None if nothing is left."""
    check_web_box(web, box)
    stars = point_stars(web)
    if bare_point(stars, box.totals) is not None:
        return None
    moves = round_moves(stars, box.totals, box.bounds, list(range(web.points)))
    bounds = moved_bounds(box.bounds, moves)
    return Box(web, bounds, box.totals) if crossed_tie(bounds, moves) is None else None


def rounds(web, box):
    """How many rounds move something and the end, or the round at which nothing is left."""
    check_web_box(web, box)
    word, log, bounds = run_rounds(web, box)
    if word == "still":
        return "still", len(log), Box(web, bounds, box.totals)
    return "nothing", max(len(log), 1)


def check_rings(web):
    """Rows of looks are told of webs without rings alone."""
    check_web(web)
    closing = closing_ties(web.points, web.ties)
    if closing:
        raise Refused(closing[0])


def sweep_row(web):
    """A row of points that leads every box of a web without rings to its end."""
    check_rings(web)
    row = []
    for ups in web_spreads(web):
        # From the farthest points to the first one, then out again.
        row.extend(list(ups)[::-1])
        row.extend(list(ups)[1:])
    return tuple(row)


def sweep_holds(web, value):
    """Whether any value is a tuple of points in which each way of the web stands in order."""
    check_rings(web)
    if not isinstance(value, tuple) or not all([is_below(point, web.points) for point in value]):
        return False
    beside = neighbours(web.points, web.ties, doubles_of(web.ties))
    return all([has_ways_from(beside, start, value) for start in range(web.points)])


def has_ways_from(beside, start, row):
    """Whether each way that begins at a point stands in order in a row."""
    ups = spread(beside, [start])
    stood = set()
    for point in row:
        if point == start or (point in ups and ups[point][1] in stood):
            stood.add(point)
    return len(stood) == len(ups)
