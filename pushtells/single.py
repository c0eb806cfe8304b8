"""Who alone may be wrong: one total, or the bounds of one tie."""

from pushtells.boxes import Box, check_web_box
from pushtells.checks import check_point, check_tie, is_integer, is_paper, is_sign_row, is_tuple
from pushtells.copies import worst_row
from pushtells.ends import exact_ends, filling_with, stopped
from pushtells.errors import InvalidWord
from pushtells.fillings import doubled_filling, fits
from pushtells.signs import lack_of, tie_pull
from pushtells.webs import Web


def widest(box):
    """More than any sum of balances can ask of one tie."""
    totals = sum([abs(total) for total in box.totals])
    return 1 + totals + 2 * sum([max(abs(least), abs(most)) for least, most in box.bounds])


def freed_total(web, box, point):
    """(web, box, tie): what a point's total may be is what one tie more may have."""
    wide = widest(box)
    totals = list(box.totals)
    totals[point] = 0
    freed = Web(web.points, list(web.ties) + [(point, -1)])
    return freed, Box(freed, list(box.bounds) + [(-wide, wide)], totals), len(web.ties)


def freed_tie(web, box, tie):
    """(web, box, tie): the tie's own bounds are let go."""
    wide = widest(box)
    bounds = list(box.bounds)
    bounds[tie] = (-wide, wide)
    return web, Box(web, bounds, box.totals), tie


def freed_by(web, box, word, number):
    """What of a point or a tie, by its word, is let go."""
    return freed_total(web, box, number) if word == "point" else freed_tie(web, box, number)


def freed_ends(web, box, word, number):
    """The doubled ends of what is let go, or None."""
    freed, wider, tie = freed_by(web, box, word, number)
    return exact_ends(freed, wider, tie)


def right_total(web, box, point):
    """(least, greatest) of the totals that a point could have, or None."""
    check_web_box(web, box)
    check_point(web, point)
    ends = freed_ends(web, box, "point", point)
    return None if ends is None else (ends[0] // 2, ends[1] // 2)


def right_tie(web, box, tie):
    """(least, greatest), doubled, of the numbers that a tie could have, or None."""
    check_web_box(web, box)
    check_tie(web, tie)
    return freed_ends(web, box, "tie", tie)


def wrong_ones(web, box, word, many):
    """The numbers of what alone may be wrong, ascending; none where something fills the box."""
    if doubled_filling(web, box) is not None:
        return ()
    return tuple([number for number in range(many) if freed_ends(web, box, word, number) is not None])


def wrong_points(web, box):
    """The points of which some other total will do."""
    check_web_box(web, box)
    return wrong_ones(web, box, "point", web.points)


def wrong_ties(web, box):
    """The ties of which other bounds will do."""
    check_web_box(web, box)
    return wrong_ones(web, box, "tie", len(web.ties))


def check_single(web, box, word, number):
    check_web_box(web, box)
    if word not in ("point", "tie"):
        raise InvalidWord(-1)
    if word == "point":
        check_point(web, number)
    else:
        check_tie(web, number)


def single_paper(web, box, word, number):
    """Signs that it is not this one alone; or what it could have, with signs that tell the ends and fillings."""
    check_single(web, box, word, number)
    freed, wider, tie = freed_by(web, box, word, number)
    if doubled_filling(freed, wider) is None:
        return "never", worst_row(freed.points, freed.ties, wider.bounds, wider.totals)
    least, low = stopped(freed, wider, tie, -1)
    greatest, high = stopped(freed, wider, tie, 1)
    fillings = [filling_with(freed, wider, tie, end) for end in (least, greatest)]
    if word == "point":
        return "right", least // 2, greatest // 2, low, high, tuple([filling[:-1] for filling in fillings])
    return "right", least, greatest, low, high, tuple(fillings)


def single_holds(web, box, word, number, value):
    """Whether any value is such a paper."""
    check_single(web, box, word, number)
    if is_paper(value, "never", 2):
        return is_sign_row(value[1], web.points) and shows_without(web, box, word, number, value[1])
    if not is_paper(value, "right", 6) or not is_tuple(value[5], 2):
        return False
    least, greatest, low, high, fillings = value[1:]
    if not is_integer(least) or not is_integer(greatest):
        return False
    ends = ((least, low, 1, fillings[0]), (greatest, high, -1, fillings[1]))
    return all([is_end(web, box, word, number, told) for told in ends])


def shows_without(web, box, word, number, signs):
    """Whether signs show the box, whatever this point or this tie has."""
    lack = lack_of(web.ties, box.bounds, box.totals, signs)
    return lack > 0 and pull_by(web, word, number, signs) == 0


def pull_by(web, word, number, signs):
    """The pull of signs at a tie; at a point's total, the signs being taken off it."""
    return -signs[number] if word == "point" else tie_pull(web.ties[number], signs)


def is_end(web, box, word, number, told):
    """Whether (end, signs, way, filling), of any values but the end and the way, are an end and what tells it."""
    end, signs, way, filling = told
    doubled = 2 * end if word == "point" else end
    if not is_sign_row(signs, web.points) or pull_by(web, word, number, signs) * way <= 0:
        return False
    bounds, totals = list(box.bounds), list(box.totals)
    if word == "point":
        totals[number] = 0
    else:
        bounds[number] = (0, 0)
    if 2 * lack_of(web.ties, bounds, totals, signs) != pull_by(web, word, number, signs) * doubled:
        return False
    # Doubled, with just this end where it is told.
    pairs, sums = [(2 * least, 2 * most) for least, most in bounds], [2 * total for total in totals]
    if word == "point":
        sums[number] = doubled
    else:
        pairs[number] = (doubled, doubled)
    return fits(web, pairs, sums, filling)
