"""Which signs are needed, and how others part: over sign rows of a web's points."""

from pushtells.basis import level_signs
from pushtells.hang import cancelling, neighbours, sign_row, spread, spreads
from pushtells.rows import doubles_of, is_double, tie_ends, tie_sign
from pushtells.signs import tie_pull


def first_point(signs):
    """The least point with a sign."""
    return [point for point, sign in enumerate(signs) if sign != 0][0]


def home_of(web, point):
    """What is reached from a point by ties of two points."""
    return spread(neighbours(web.points, web.ties, doubles_of(web.ties)), [point])


def whole_sum(web, point):
    """{point: sign} by which all ties of a point's component cancel, or None."""
    return level_signs(web.ties, list(range(len(web.ties))), home_of(web, point))


def is_hanging(web, signs):
    """Whether all points with signs hang together by ties that cancel."""
    beside = neighbours(web.points, web.ties, cancelling(web.ties, signs))
    return len(spread(beside, [first_point(signs)])) == len([sign for sign in signs if sign != 0])


def other_lots(web, signs):
    """For each lot of the component's other points that hangs together: by which signs all ties there cancel, or None.

    Ties that have an end in the signs' points are left out.
    """
    home = home_of(web, first_point(signs))
    clear = [number for number, tie in enumerate(web.ties) if all([signs[point] == 0 for point, _ in tie_ends(tie)])]
    beside = neighbours(web.points, web.ties, [number for number in clear if is_double(web.ties[number])])
    rest = [point for point in sorted(home) if signs[point] == 0]
    return [level_signs(web.ties, clear, ups) for ups in spreads(beside, rest)]


def spare_lot(web, signs):
    """Of signs that hang together: {point: sign} of a lot for which they are not needed, or None if they are."""
    lots = other_lots(web, signs)
    if whole_sum(web, first_point(signs)) is not None and len(lots) < 2:
        return None
    level = [lot for lot in lots if lot is not None]
    return level[0] if level else None


def is_needed_row(web, signs):
    """Whether signs are needed."""
    return is_hanging(web, signs) and spare_lot(web, signs) is None


def parting(web, signs):
    """(times, one, other) of signs that are not needed, None for needed ones."""
    if not is_hanging(web, signs):
        beside = neighbours(web.points, web.ties, cancelling(web.ties, signs))
        part = spread(beside, [first_point(signs)])
        one = tuple([sign if point in part else 0 for point, sign in enumerate(signs)])
        return 1, one, row_less(signs, one)
    lot = spare_lot(web, signs)
    if lot is None:
        return None
    spare = sign_row(web.points, lot)
    less = row_less(signs, spare)
    outward = [tie for tie in web.ties if tie_pull(tie, spare) != 0]
    kept = [tie for tie in outward if tie_pull(tie, less) != 0]
    if not kept:
        return 1, spare, less
    turned_spare = tuple([-sign for sign in spare])
    more = row_less(signs, turned_spare)
    if len(kept) == len(outward):
        return 1, turned_spare, more
    return 2, more, less


def row_less(one, other):
    """The one row less the other."""
    return tuple([sign - taken for sign, taken in zip(one, other)])


def needed_rows(web):
    """All needed signs, each look once, ascending."""
    kept = []
    lacking = {}
    for row in hanging_rows(web):
        points = tuple([sign != 0 for sign in row])
        if points not in lacking:
            lacking[points] = is_told_side(web, row) and spare_lot(web, row) is None
        if lacking[points]:
            kept.append(row)
    return sorted(kept)


def is_told_side(web, row):
    """Whether signs have the least point of their component, should that be closed and even."""
    whole = whole_sum(web, first_point(row))
    return whole is None or row[min(list(whole))] != 0


def hanging_rows(web):
    """All signs that hang together by ties that cancel, 1 at their least points."""
    beside = [[] for _ in range(web.points)]
    for tie in web.ties:
        if is_double(tie):
            beside[tie[0]].append((tie[2], tie_sign(tie)))
            beside[tie[2]].append((tie[0], tie_sign(tie)))
    found = []
    for point in range(web.points):
        found.extend(grown_rows(beside, point))
    return found


def grown_rows(beside, least):
    """All signs that hang together and have 1 at this point, their least one."""
    start = sign_row(len(beside), {least: 1})
    seen = {start: True}
    queue = [start]
    at = 0
    while at < len(queue):
        row = queue[at]
        at += 1
        for point in range(least, len(row)):
            if row[point] != 0:
                for other, sign in beside[point]:
                    grown = row[:other] + (sign * row[point],) + row[other + 1:]
                    if other > least and row[other] == 0 and grown not in seen:
                        seen[grown] = True
                        queue.append(grown)
    return queue
