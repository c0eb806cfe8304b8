"""The double cover of a web, and signs with the greatest shortage."""

from pushtells.boxes import Box, check_web_box
from pushtells.checks import is_integer, is_sized
from pushtells.copies import copied_ties, side_totals, stretched, twice, worst_row
from pushtells.errors import InvalidRow, InvalidSigns, InvalidSize, InvalidWeights
from pushtells.signs import lack_of
from pushtells.webs import Web, check_web

MOST_COVERED_POINTS = 500
MOST_COVERED_TIES = 1500


def cover_web(web):
    """The web of both sides of each point, and both copies of each tie."""
    check_web(web)
    check_covered(web)
    return Web(2 * web.points, copied_ties(web.ties))


def check_covered(web):
    if web.points > MOST_COVERED_POINTS:
        raise InvalidSize("points")
    if len(web.ties) > MOST_COVERED_TIES:
        raise InvalidSize("ties")


def cover_box(web, box):
    """The box over the cover: the bounds twice, each total and the same turned about."""
    check_web_box(web, box)
    return Box(cover_web(web), twice(box.bounds), side_totals(box.totals))


def put_down(web, row):
    """The sums of both copies' numbers."""
    check_web(web)
    if not is_sized(row, 2 * len(web.ties)):
        raise InvalidRow(-1)
    for at, number in enumerate(row):
        if not is_integer(number):
            raise InvalidRow(at)
    return tuple([row[2 * tie] + row[2 * tie + 1] for tie in range(len(web.ties))])


def lifted(web, z):
    """Half of each doubled number, for both copies."""
    check_web(web)
    if not is_sized(z, len(web.ties)):
        raise InvalidRow(-1)
    for at, number in enumerate(z):
        if not is_integer(number) or number & 1 == 1:
            raise InvalidRow(at)
    return tuple(twice([number // 2 for number in z]))


def signs_down(web, signs):
    """For each point the first side's 0 or 1 less the second one's."""
    check_web(web)
    if not is_sized(signs, 2 * web.points):
        raise InvalidSigns(-1)
    for at, sign in enumerate(signs):
        if not is_integer(sign) or sign not in (0, 1):
            raise InvalidSigns(at)
    return tuple([signs[2 * point] - signs[2 * point + 1] for point in range(web.points)])


def worst_signs(web, box, less=(0, 1), weights=None):
    """Signs with the most of q times shortage less p times weighed pulls, and how much that is."""
    check_web_box(web, box)
    if not is_factor_pair(less):
        raise InvalidSize("less")
    told = [1] * len(web.ties) if weights is None else weights
    check_weights(web, told)
    p, q = less
    # Wider bounds bring so much more as weighed pulls take off.
    bounds = stretched(box.bounds, told, p, q)
    totals = [q * total for total in box.totals]
    signs = worst_row(web.points, web.ties, bounds, totals)
    return lack_of(web.ties, bounds, totals, signs), signs


def is_factor_pair(value):
    """Whether any value is a pair of integers, the first from 0 on, the second from 1 on."""
    return is_sized(value, 2) and is_integer(value[0]) and is_integer(value[1]) and value[0] >= 0 and value[1] >= 1


def check_weights(web, weights):
    if not is_sized(weights, len(web.ties)):
        raise InvalidWeights(-1)
    for at, weight in enumerate(weights):
        if not is_integer(weight) or weight < 0:
            raise InvalidWeights(at)
