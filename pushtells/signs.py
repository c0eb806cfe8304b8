"""Signs at the points: what they pull, and what they show."""

from pushtells.boxes import check_web_box
from pushtells.checks import check_signs, check_tie, is_sign_row
from pushtells.hang import cancelling, neighbours, spreads
from pushtells.rows import tie_ends
from pushtells.webs import check_web


def tie_pull(told, signs):
    """The sum of a tie's signs times those of its points."""
    return sum([sign * signs[point] for point, sign in tie_ends(told)])


def pull(web, signs, tie):
    """The sum, over the ends of a tie, of its sign there times the point's."""
    check_web(web)
    check_signs(web, signs)
    check_tie(web, tie)
    return tie_pull(web.ties[tie], signs)


def sign_pulls(web, signs):
    """(tie, pull) of all ties that are pulled, ascending."""
    check_web(web)
    check_signs(web, signs)
    pulls = [(number, tie_pull(told, signs)) for number, told in enumerate(web.ties)]
    return tuple([(number, size) for number, size in pulls if size != 0])


def shortage(web, box, signs):
    """By how much the signed totals are above all that the pulled ties can bring."""
    check_web_box(web, box)
    check_signs(web, signs)
    return lack_of(web.ties, box.bounds, box.totals, signs)


def lack_of(ties, bounds, totals, signs):
    """The shortage of signs, over plain numbers."""
    asked = sum([sign * total for sign, total in zip(signs, totals)])
    for told, (least, greatest) in zip(ties, bounds):
        size = tie_pull(told, signs)
        asked -= max(size * least, size * greatest)
    return asked


def signs_show(web, box, value):
    """Whether any value is signs that show the box."""
    check_web_box(web, box)
    return do_show(web, box.bounds, box.totals, value)


def do_show(web, bounds, totals, value):
    """Whether any value is signs that show a box with these bounds and totals."""
    return is_sign_row(value, web.points) and lack_of(web.ties, bounds, totals, value) > 0


def hanging_parts(web, signs):
    """The points with signs, in lots that hang together by ties that cancel."""
    check_web(web)
    check_signs(web, signs)
    beside = neighbours(web.points, web.ties, cancelling(web.ties, signs))
    found = spreads(beside, [point for point in range(web.points) if signs[point] != 0])
    return tuple([tuple(sorted(ups)) for ups in found])
