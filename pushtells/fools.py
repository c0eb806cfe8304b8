"""Still boxes that fool the courts: built ones, and the reasons of others."""

from pushtells.boxes import Box, check_web_box, cut_box
from pushtells.checks import check_signs, is_below, is_integer, is_paper, is_sign_row, is_tuple
from pushtells.courts import is_odd, is_piece, is_way, left_of
from pushtells.errors import InvalidPaper, InvalidSize, Refused
from pushtells.fillings import doubled_filling, filling_holds, showing
from pushtells.hang import cancelling, neighbours, sign_row, spreads
from pushtells.leads import is_bad_piece
from pushtells.looks import looked, point_stars
from pushtells.rows import doubles_of, other_point, points_of, ring_points, sign_at, tie_ends
from pushtells.signs import do_show, lack_of, tie_pull
from pushtells.tighten import is_still
from pushtells.webs import check_web
from pushtells.whole import check_settings, is_none_tree, is_whole_filling, whole_told

MOST_HELD_TIES = 40


def built_box(web, paper):
    """The still box that a paper against the web builds."""
    check_web(web)
    if is_odd(web, paper):
        return odd_box(web, paper[1])
    if is_piece(web, paper) or is_no(web, paper):
        return piece_box(web, paper[1], paper[2])
    if is_way(web, paper):
        return way_box(web, paper[1], paper[2])
    raise InvalidPaper(-1)


def is_no(web, value):
    """Whether any value is the first court's ("no", ties, signs)."""
    return is_paper(value, "no", 3) and is_bad_piece(web.points, web.ties, value[1], value[2])


def told_box(web, bounds, totals):
    """The box with these bounds and totals, 0 where none are told."""
    pairs = [bounds.get(number, (0, 0)) for number in range(len(web.ties))]
    return Box(web, pairs, [totals.get(point, 0) for point in range(web.points)])


def odd_box(web, ring):
    """Each of the ring's ties from 0 to 1, each of its points half of what its ties can bring at the most."""
    sums = {}
    for number in ring:
        for point, sign in tie_ends(web.ties[number]):
            sums[point] = sums.get(point, 0) + sign
    return told_box(web, {number: (0, 1) for number in ring}, {point: sums[point] // 2 for point in sums})


def piece_box(web, ties, signs):
    """Ties from 0 to 2, where no point has one alone; the totals are as far off the middles as looks let."""
    kept = left_of(web, ties)
    totals = {}
    for point in points_of(web.ties, kept):
        here = [end[1] for number in kept for end in tie_ends(web.ties[number]) if end[0] == point]
        totals[point] = sum(here) + signs[point] * (len(here) - 2)
    return told_box(web, {number: (0, 2) for number in kept}, totals)


def way_box(web, ring, way):
    """The ring's ties from -1 to 1, the way's from 0 to 1 or from -1 to 0, as each one hands on to the next one."""
    bounds = {number: (-1, 1) for number in ring}
    along = ring_points(web.ties, ring)
    point = [end for end, _ in tie_ends(web.ties[way[0]]) if end in along][0]
    pair = (0, 1)
    for at, number in enumerate(way):
        bounds[number] = pair
        if at < len(way) - 1:
            point = other_point(web.ties[number], point)
            if sign_at(web.ties[number], point) == sign_at(web.ties[way[at + 1]], point):
                pair = (-pair[1], -pair[0])
    return told_box(web, bounds, {})


def level_piece(web, box, signs):
    """(width, ties, signs): a piece of ties at least so wide that cancel under signs that show a still box."""
    check_web_box(web, box)
    check_signs(web, signs)
    if not is_still(web, box):
        raise Refused("box")
    if lack_of(web.ties, box.bounds, box.totals, signs) <= 0:
        raise Refused("signs")
    widths = {number: box.bounds[number][1] - box.bounds[number][0] for number in cancelling(web.ties, signs)}
    for width in sorted({width for width in list(widths.values()) if width > 0}):
        wide = [number for number in widths if widths[number] >= width]
        for points, row in crowded_parts(web, wide):
            return width, tuple(row), sign_row(web.points, {point: signs[point] for point in points})
    return None


def crowded_parts(web, chosen):
    """(points, ties) of each lot that hangs together by chosen ties, and has more of these than points."""
    found = []
    for ups in spreads(neighbours(web.points, web.ties, chosen), points_of(web.ties, chosen)):
        row = [number for number in chosen if web.ties[number][0] in ups]
        if len(row) > len(ups):
            found.append((sorted(ups), row))
    return found


def check_which(which):
    if not is_integer(which) or which not in (1, 2, 3):
        raise InvalidSize("which")


def moves_at(web, box, point):
    """Whether a look at a point moves something or leaves nothing."""
    bounds = looked(point_stars(web)[point], box.bounds, box.totals[point])
    return bounds is None or bounds != list(box.bounds)


def fools_paper(web, box, which):
    """Where the box is not still, how it fools a court, or what shows that it does not."""
    check_web_box(web, box)
    check_which(which)
    if which == 3 and len(web.ties) > MOST_HELD_TIES:
        raise InvalidSize("ties")
    moving = [point for point in range(web.points) if moves_at(web, box, point)]
    if moving:
        return "moves", moving[0]
    if which == 3:
        return held_paper(web, box)
    filling = doubled_filling(web, box)
    if filling is None:
        signs = showing(web, box.bounds, box.totals)
        return "fools", signs if which == 1 else ("signs", signs)
    return ("filled", filling) if which == 1 else parity_or_whole(web, box)


def parity_or_whole(web, box):
    """Of a still box that something fills: how it fools the second court, or a whole filling."""
    signs = odd_lot(web, box)
    if signs is not None:
        return "fools", ("odd", signs)
    check_settings(web, box)
    word, told = whole_told(web, box)
    return ("whole", told) if word == "filling" else ("fools", (word, told))


def odd_lot(web, box):
    """1 at points that hang together by ties with unlike bounds, if what is due there is odd, or None."""
    wide = [number for number in doubles_of(web.ties) if box.bounds[number][0] < box.bounds[number][1]]
    for ups in spreads(neighbours(web.points, web.ties, wide), list(range(web.points))):
        signs = sign_row(web.points, {point: 1 for point in ups})
        if is_odd_sum(web, box, signs):
            return signs
    return None


def is_odd_sum(web, box, signs):
    """Whether all ties that signs pull oddly have one number each, and what these leave of the totals is odd."""
    due = sum([sign * total for sign, total in zip(signs, box.totals)])
    for told, (least, most) in zip(web.ties, box.bounds):
        size = tie_pull(told, signs)
        if size & 1 == 1:
            if least < most:
                return False
            due -= size * least
    return due & 1 == 1


def held_paper(web, box):
    """Of a still box: fillings that have both bounds of each tie, or a bound that no filling has."""
    pairs = []
    for tie in range(len(web.ties)):
        pair = []
        for number in box.bounds[tie]:
            through = cut_box(web, box, tie, number, number)
            filling = doubled_filling(web, through)
            if filling is None:
                return "fools", (tie, number, showing(web, through.bounds, through.totals))
            pair.append(filling)
        pairs.append(tuple(pair))
    return "held", tuple(pairs)


def fools_holds(web, box, which, value):
    """Whether any value is such a paper, each sort by itself."""
    check_web_box(web, box)
    check_which(which)
    if is_paper(value, "moves", 2):
        return is_below(value[1], web.points) and moves_at(web, box, value[1])
    if not is_tuple(value, 2) or not is_still(web, box):
        return False
    if value[0] == "fools":
        return is_reason(web, box, which, value[1])
    if which == 1:
        return value[0] == "filled" and filling_holds(web, box, value[1])
    if which == 2:
        return value[0] == "whole" and is_whole_filling(web, box, value[1])
    return value[0] == "held" and are_held(web, box, value[1])


def is_reason(web, box, which, value):
    """Whether any value is a reason why a still box fools a court."""
    if which == 1:
        return do_show(web, box.bounds, box.totals, value)
    if which == 3:
        return is_missed(web, box, value)
    if is_paper(value, "signs", 2):
        return do_show(web, box.bounds, box.totals, value[1])
    if is_paper(value, "odd", 2):
        return is_sign_row(value[1], web.points) and is_odd_sum(web, box, value[1])
    return is_paper(value, "none", 2) and is_none_tree(web, box, value[1])


def is_missed(web, box, value):
    """Whether any value is a tie, a number within its bounds, and signs that show that no filling has it there."""
    if not is_tuple(value, 3) or not is_below(value[0], len(web.ties)) or not is_integer(value[1]):
        return False
    through = cut_box(web, box, value[0], value[1], value[1])
    return through is not None and do_show(web, through.bounds, through.totals, value[2])


def are_held(web, box, value):
    """Whether any value is a pair of fillings for each tie that have its least and its greatest bound."""
    if not is_tuple(value, len(web.ties)) or not all([is_tuple(pair, 2) for pair in value]):
        return False
    for tie, pair in enumerate(value):
        for number, filling in zip(box.bounds[tie], pair):
            if not filling_holds(web, box, filling) or filling[tie] != 2 * number:
                return False
    return True
