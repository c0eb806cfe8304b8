"""Boxes: bounds for each tie of a web and totals for each point."""

from pushtells.checks import check_lot, check_tie, is_integer, is_sized
from pushtells.errors import InvalidBounds, InvalidBox, InvalidSize, InvalidTotals
from pushtells.rows import tie_ends
from pushtells.webs import check_web


class Box:
    def __init__(self, web, bounds, totals):
        check_web(web)
        check_bounds(web, bounds)
        check_totals(web, totals)
        self.bounds = tuple([tuple(pair) for pair in bounds])
        self.totals = tuple(totals)

    def __eq__(self, other):
        return isinstance(other, Box) and self.bounds == other.bounds and self.totals == other.totals


def are_bounds(value):
    """Whether any value is a pair of integers, the first not above the second."""
    return is_sized(value, 2) and is_integer(value[0]) and is_integer(value[1]) and value[0] <= value[1]


def check_bounds(web, bounds):
    if not is_sized(bounds, len(web.ties)):
        raise InvalidBounds(-1)
    for at, pair in enumerate(bounds):
        if not are_bounds(pair):
            raise InvalidBounds(at)


def check_totals(web, totals):
    if not is_sized(totals, web.points):
        raise InvalidTotals(-1)
    for at, total in enumerate(totals):
        if not is_integer(total):
            raise InvalidTotals(at)


def check_box(web, box):
    if not isinstance(box, Box) or len(box.bounds) != len(web.ties) or len(box.totals) != web.points:
        raise InvalidBox(-1)


def check_web_box(web, box):
    """The two come first wherever both are passed."""
    check_web(web)
    check_box(web, box)


def is_within(web, one, other):
    """Whether the one box lies within the other, the totals being the same."""
    check_web_box(web, one)
    check_box(web, other)
    inside = [low <= least and most <= high for (least, most), (low, high) in zip(one.bounds, other.bounds)]
    return one.totals == other.totals and all(inside)


def cut_box(web, box, tie, least, greatest):
    """The box with a tie's bounds cut, or None if no number is left there."""
    check_web_box(web, box)
    check_tie(web, tie)
    if not are_bounds((least, greatest)):
        raise InvalidBounds(-1)
    pair = (max(least, box.bounds[tie][0]), min(greatest, box.bounds[tie][1]))
    if pair[0] > pair[1]:
        return None
    bounds = list(box.bounds)
    bounds[tie] = pair
    return Box(web, bounds, box.totals)


def turned_box(web, box, points):
    """The box of the web with these points turned."""
    check_web_box(web, box)
    check_lot(points, web.points)
    totals = list(box.totals)
    for point in points:
        totals[point] = -totals[point]
    return Box(web, box.bounds, totals)


def moved_box(web, box, tie, by):
    """The box with a tie's bounds moved, and its points' totals with it."""
    check_web_box(web, box)
    check_tie(web, tie)
    bounds, totals = list(box.bounds), list(box.totals)
    bounds[tie] = (bounds[tie][0] + by, bounds[tie][1] + by)
    for point, sign in tie_ends(web.ties[tie]):
        totals[point] += sign * by
    return Box(web, bounds, totals)


def box_times(web, box, many):
    """The box with all numbers so many times."""
    check_web_box(web, box)
    if not is_integer(many) or many < 1:
        raise InvalidSize("many")
    bounds = [(least * many, greatest * many) for least, greatest in box.bounds]
    return Box(web, bounds, [total * many for total in box.totals])


def box_widths(web, box):
    """For each tie its greatest less its least."""
    check_web_box(web, box)
    return tuple([greatest - least for least, greatest in box.bounds])
