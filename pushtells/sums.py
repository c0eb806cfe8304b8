"""Further sums of balances: looks at them, and which of them are needed for one look each to be enough."""

from math import gcd

from pushtells.boxes import Box, check_web_box
from pushtells.checks import check_signs, is_integer, is_sequence, is_sign_row, is_sized, is_tuple, signs_fault
from pushtells.errors import InvalidRows, InvalidSigns, InvalidSize, Refused
from pushtells.fillings import doubled_filling
from pushtells.needed import first_point, is_needed_row, needed_rows, parting, whole_sum
from pushtells.signs import tie_pull
from pushtells.totals import closed_evens, signed_total
from pushtells.webs import check_web

MOST_SUMMED_POINTS = 10
MOST_WIDE = 10 ** 18


def check_sum_signs(web, signs):
    """Signs that are not noughts alone."""
    check_signs(web, signs)
    if not any([sign != 0 for sign in signs]):
        raise InvalidSigns(-1)


def are_sum_signs(value, points):
    """Whether any value is a list or tuple of signs, not noughts alone."""
    return is_sized(value, points) and signs_fault(value) is None and any([sign != 0 for sign in value])


def check_rows(web, rows):
    if not is_sequence(rows):
        raise InvalidRows(-1)
    for at, row in enumerate(rows):
        if not are_sum_signs(row, web.points):
            raise InvalidRows(at)


def check_few_points(web):
    if web.points > MOST_SUMMED_POINTS:
        raise InvalidSize("points")


def sum_look(web, box, signs):
    """(least, total, greatest): what the pulled ties let the signed sum be, and what it has to be."""
    check_web_box(web, box)
    check_sum_signs(web, signs)
    return look_of(web, box, signs)


def look_of(web, box, signs):
    least, greatest = 0, 0
    for tie, pair in zip(web.ties, box.bounds):
        size = tie_pull(tie, signs)
        least += min(size * pair[0], size * pair[1])
        greatest += max(size * pair[0], size * pair[1])
    return least, signed_total(signs, box.totals), greatest


def look_lack(web, box, signs):
    """By how much the signed total lies outside of what the pulled ties let it be."""
    check_web_box(web, box)
    check_sum_signs(web, signs)
    return lack_at(web, box, signs)


def lack_at(web, box, signs):
    least, total, greatest = look_of(web, box, signs)
    return max(0, total - greatest, least - total)


def is_needed(web, signs):
    """Whether signs are needed, of a closed even component either side."""
    check_web(web)
    check_sum_signs(web, signs)
    return is_needed_row(web, signs)


def needed_signs(web):
    """All needed signs, each look once."""
    check_web(web)
    check_few_points(web)
    return tuple(needed_rows(web))


def needed_count(web):
    """How many looks are needed."""
    return len(needed_signs(web))


def failing_sums(web, box):
    """The needed signs whose look fails."""
    check_web_box(web, box)
    check_few_points(web)
    return tuple([row for row in needed_rows(web) if lack_at(web, box, row) > 0])


def needed_part(web, box, signs):
    """Some needed signs whose look fails, and which pull no other ties than signs whose look fails."""
    check_web_box(web, box)
    check_sum_signs(web, signs)
    if lack_at(web, box, signs) == 0:
        raise Refused(-1)
    row = tuple(signs)
    parts = parting(web, row)
    while parts is not None:
        row = parts[1] if lack_at(web, box, parts[1]) > 0 else parts[2]
        parts = parting(web, row)
    return row


def split_paper(web, signs):
    """(times, one, other): how signs that are not needed part, or None."""
    check_web(web)
    check_sum_signs(web, signs)
    return parting(web, tuple(signs))


def split_holds(web, signs, value):
    """Whether any value is such a parting."""
    check_web(web)
    check_sum_signs(web, signs)
    if not is_tuple(value, 3) or not is_integer(value[0]) or value[0] not in (1, 2):
        return False
    times, one, other = value
    if not are_sum_rows(web, one, other) or [a + b for a, b in zip(one, other)] != [times * sign for sign in signs]:
        return False
    pulls = [(tie_pull(tie, one), tie_pull(tie, other)) for tie in web.ties]
    if any([first * second < 0 for first, second in pulls]):
        return False
    many = len([tie for tie in web.ties if tie_pull(tie, signs) != 0])
    fewer = [len([pair for pair in pulls if pair[at] != 0]) < many for at in range(2)]
    return all(fewer) or not any([a != 0 and b != 0 for a, b in zip(one, other)])


def are_sum_rows(web, one, other):
    """Whether any two values are tuples of signs, not noughts alone."""
    return all([is_sign_row(row, web.points) and are_sum_signs(row, web.points) for row in (one, other)])


def cut_bounds(web, box, rows):
    """The doubled bounds that one look at each sum leaves, or None if one fails or leaves a tie nothing."""
    check_web_box(web, box)
    check_rows(web, rows)
    return bounds_by(web, box, rows)


def bounds_by(web, box, rows):
    cut = [(2 * least, 2 * most) for least, most in box.bounds]
    for row in rows:
        least, total, greatest = look_of(web, box, row)
        if not least <= total <= greatest:
            return None
        for number, (tie, pair) in enumerate(zip(web.ties, box.bounds)):
            size = tie_pull(tie, row)
            if size != 0:
                # What the others bring is what all bring, less its own part.
                own = sorted([size * pair[0], size * pair[1]])
                ends = sorted([2 * (total - greatest + own[1]) // size, 2 * (total - least + own[0]) // size])
                cut[number] = (max(cut[number][0], ends[0]), min(cut[number][1], ends[1]))
    return None if any([low > high for low, high in cut]) else tuple(cut)


def sum_ends(web, box):
    """The doubled ends of each tie that single needed sums and its own bounds leave."""
    check_web_box(web, box)
    check_few_points(web)
    if doubled_filling(web, box) is None:
        raise Refused(-1)
    return bounds_by(web, box, needed_rows(web))


def lone_box(web, signs, wide):
    """A box that nothing fills, of which no look at another needed sum fails."""
    check_web(web)
    check_sum_signs(web, signs)
    if not is_needed_row(web, signs):
        raise Refused(-1)
    if not is_integer(wide) or not 2 <= wide <= MOST_WIDE:
        raise InvalidSize("wide")
    bounds = [(-wide, wide) if tie_pull(tie, signs) == 0 else (0, 0) for tie in web.ties]
    totals = [0] * web.points
    first = first_point(signs)
    totals[first] = signs[first]
    whole = whole_sum(web, first)
    others = [] if whole is None else [point for point in sorted(whole) if signs[point] == 0]
    if others:
        totals[others[0]] = -whole[first] * signs[first] * whole[others[0]]
    return Box(web, bounds, totals)


def lacking_sums(web, rows):
    """The needed signs without a look among these rows that could stand for theirs."""
    check_web(web)
    check_rows(web, rows)
    check_few_points(web)
    pulls = [pull_row(web, row) for row in rows]
    wholes = closed_evens(web)
    had = {row: True for row in pulls}
    mixed = unit_places([[row[first_point(whole)] for whole in wholes] for row in rows if is_level_row(web, row)])
    found = []
    for row in needed_rows(web):
        if is_level_row(web, row):
            stands = wholes.index(row) in mixed
        else:
            stands = pull_row(web, row) in had
        if not stands:
            found.append(row)
    return tuple(found)


def is_level_row(web, row):
    """Whether signs pull at no tie."""
    return not any([tie_pull(tie, row) != 0 for tie in web.ties])


def pull_row(web, row):
    """The pulls at all ties in lowest terms, the first one above 0."""
    return lowest([tie_pull(tie, row) for tie in web.ties])


def lowest(numbers):
    """Whole numbers in lowest terms, the first one that is not 0 above 0."""
    common = 0
    for number in numbers:
        common = gcd(common, number)
    firsts = [number for number in numbers if number != 0]
    if not firsts:
        return tuple(numbers)
    return tuple([number // (common if firsts[0] > 0 else -common) for number in numbers])


def unit_places(rows):
    """The places at which alone some sum of multiples of these rows of whole numbers is not 0."""
    left, done = [lowest(row) for row in rows], {}
    for place in range(len(rows[0]) if rows else 0):
        heads = [row for row in left if row[place] != 0]
        if heads:
            head = heads[0]
            done = {at: without(row, head, place) for at, row in done.items()}
            left = [without(row, head, place) for row in left]
            done[place] = head
    return [place for place, row in done.items() if len([number for number in row if number != 0]) == 1]


def without(row, head, place):
    """A multiple of a row less one of another, so that it is 0 at a place."""
    return lowest([number * head[place] - taken * row[place] for number, taken in zip(row, head)])
