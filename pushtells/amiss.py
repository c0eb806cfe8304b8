"""How much is amiss: how far bounds are widened, narrowed, or totals changed, such that something fills a box."""

from math import gcd

from pushtells.boxes import check_web_box
from pushtells.checks import check_signs, is_below, is_integer, is_paper, is_sign_row, is_sized, is_tuple
from pushtells.copies import copy_numbers, nearest_numbers, stretched, twice, worst_row
from pushtells.errors import InvalidWeights, Refused
from pushtells.fillings import doubled_filling, fits, put_together, sums_at
from pushtells.signs import lack_of, tie_pull
from pushtells.webs import check_web

MOST_WEIGHT = 9


def check_weights(web, weights):
    if not is_sized(weights, len(web.ties)):
        raise InvalidWeights(-1)
    for at, weight in enumerate(weights):
        if not is_below(weight, MOST_WEIGHT + 1):
            raise InvalidWeights(at)


def check_weighed(web, box, weights):
    check_web_box(web, box)
    check_weights(web, weights)


def reach(web, weights, signs):
    """The sum of weights times pulls without their sign."""
    check_web(web)
    check_weights(web, weights)
    check_signs(web, signs)
    return reach_of(web, weights, signs)


def reach_of(web, weights, signs):
    return sum([weight * abs(tie_pull(tie, signs)) for tie, weight in zip(web.ties, weights)])


def lack_in(web, box, signs):
    """The shortage of signs."""
    return lack_of(web.ties, box.bounds, box.totals, signs)


def lowest_pair(p, q):
    """A fraction without a common divisor but 1."""
    common = gcd(p, q)
    return p // common, q // common


def is_lowest_pair(p, q):
    """Whether any two values are a fraction, from 0 on, without a common divisor but 1."""
    return is_integer(p) and is_integer(q) and p >= 0 and q >= 1 and gcd(p, q) == 1


def scaled(box, weights, p, q):
    """(bounds, totals), all q times, of the box widened by p / q times the weights."""
    return stretched(box.bounds, weights, p, q), [q * total for total in box.totals]


def walked(web, box, weights, begin, way):
    """(p, q, signs): from a fraction on to one by which the box, widened (way 1) or narrowed (-1), can be filled.

    begin: such a triple; the signs told are those by which the fraction came, the first ones if none were wanted.
    q is 0 if signs without a reach show the box.
    """
    p, q, signs = begin
    while True:
        bounds, totals = scaled(box, weights, way * p, q)
        told = worst_row(web.points, web.ties, bounds, totals)
        if lack_of(web.ties, bounds, totals, told) <= 0:
            return p, q, signs
        signs, far = told, reach_of(web, weights, told)
        if far == 0:
            return 0, 0, signs
        p, q = lowest_pair(way * lack_in(web, box, signs), far)


def scaled_filling(web, box, weights, p, q):
    """A filling of the box widened by p / q times the weights, each number times 2 q."""
    bounds, totals = scaled(box, weights, p, q)
    return put_together(copy_numbers(web.points, web.ties, twice(bounds), totals))


def is_scaled_filling(web, box, weights, p, q, value):
    """Whether any value is such a filling."""
    bounds, totals = scaled(box, weights, 2 * p, 2 * q)
    return fits(web, bounds, totals, value)


def widest_way(web, box, weights):
    """How far the bounds have to be widened, and the signs that want it, as `walked` tells it."""
    return walked(web, box, weights, (0, 1, (0,) * web.points), 1)


def least_widening(web, box, weights):
    """The least fraction of the weights by which the bounds have to be widened, or None."""
    check_weighed(web, box, weights)
    p, q, _ = widest_way(web, box, weights)
    return None if q == 0 else (p, q)


def widening_paper(web, box, weights):
    """The least fraction, signs that want so much and a filling that has no more; or signs that none will do."""
    check_weighed(web, box, weights)
    p, q, signs = widest_way(web, box, weights)
    if q == 0:
        return "never", signs
    return "least", p, q, signs, scaled_filling(web, box, weights, p, q)


def widening_holds(web, box, weights, value):
    """Whether any value is such a paper."""
    check_weighed(web, box, weights)
    if is_paper(value, "never", 2):
        return is_sign_row(value[1], web.points) and reach_of(web, weights, value[1]) == 0 < lack_in(web, box, value[1])
    if not is_paper(value, "least", 5):
        return False
    p, q, signs, filling = value[1:]
    if not is_lowest_pair(p, q) or not is_sign_row(signs, web.points):
        return False
    if p == 0:
        wanted = not any([sign != 0 for sign in signs])
    else:
        wanted = reach_of(web, weights, signs) > 0 and is_told_by(web, box, weights, p, q, signs)
    return wanted and is_scaled_filling(web, box, weights, p, q, filling)


def is_told_by(web, box, weights, p, q, signs):
    """Whether the shortage of signs is p / q times their reach."""
    return lack_in(web, box, signs) * q == p * reach_of(web, weights, signs)


def narrowest_way(web, box, weights):
    """How far the bounds may be narrowed, as `walked` tells it, and the tie whose bounds would meet first."""
    check_weighed(web, box, weights)
    if doubled_filling(web, box) is None:
        raise Refused("filling")
    wides = []
    for tie, ((least, most), weight) in enumerate(zip(box.bounds, weights)):
        if weight > 0:
            wides.append((most - least, 2 * weight, tie))
    if not wides:
        raise Refused("weights")
    first = wides[0]
    for told in wides:
        if told[0] * first[1] < first[0] * told[1]:
            first = told
    p, q = lowest_pair(first[0], first[1])
    return walked(web, box, weights, (p, q, None), -1), first[2]


def greatest_narrowing(web, box, weights):
    """The greatest fraction of the weights by which the bounds may be narrowed."""
    (p, q, _), _ = narrowest_way(web, box, weights)
    return p, q


def narrowing_paper(web, box, weights):
    """The greatest fraction, what lets no more, and a filling that has so much."""
    (p, q, signs), tie = narrowest_way(web, box, weights)
    why = ("tie", tie) if signs is None else ("signs", signs)
    return p, q, why, scaled_filling(web, box, weights, -p, q)


def narrowing_holds(web, box, weights, value):
    """Whether any value is such a paper."""
    check_weighed(web, box, weights)
    if not is_tuple(value, 4) or not is_lowest_pair(value[0], value[1]):
        return False
    p, q, why, filling = value
    return lets_no_more(web, box, weights, p, q, why) and is_scaled_filling(web, box, weights, -p, q, filling)


def lets_no_more(web, box, weights, p, q, why):
    """Whether any value is a tie or signs by which bounds can't be narrowed by more than p / q times the weights."""
    if is_paper(why, "tie", 2) and is_below(why[1], len(web.ties)):
        least, most = box.bounds[why[1]]
        weight = weights[why[1]]
        return weight > 0 and (most - least) * q == 2 * p * weight
    if is_paper(why, "signs", 2) and is_sign_row(why[1], web.points):
        return reach_of(web, weights, why[1]) > 0 and is_told_by(web, box, weights, -p, q, why[1])
    return False


def least_change(web, box):
    """The least sum by which totals have to be changed such that something fills the box."""
    return change_paper(web, box)[0]


def change_paper(web, box):
    """(number, signs, totals, filling): signs that want so much, changed totals and a filling, both doubled."""
    check_web_box(web, box)
    signs = worst_row(web.points, web.ties, box.bounds, box.totals)
    filling = put_together(nearest_numbers(web.points, web.ties, box.bounds, box.totals))
    return lack_in(web, box, signs), signs, tuple(sums_at(web, filling)), filling


def change_holds(web, box, value):
    """Whether any value is such a paper."""
    check_web_box(web, box)
    if not is_tuple(value, 4) or not is_sign_row(value[1], web.points) or not is_tuple(value[2], web.points):
        return False
    number, signs, totals, filling = value
    if not is_integer(number) or not all([is_integer(total) for total in totals]):
        return False
    off = sum([abs(told - 2 * total) for told, total in zip(totals, box.totals)])
    if off != 2 * number or lack_in(web, box, signs) != number:
        return False
    return fits(web, [(2 * least, 2 * most) for least, most in box.bounds], totals, filling)
