"""Looks and rounds over plain numbers.

Bounds are a sequence of pairs. A side of a tie is (tie, 1) or (tie, -1), its upper number the greatest or the
least with the other sign, so that whatever is cut falls.
"""

from pushtells.rows import is_double, tie_ends


def point_stars(web):
    """For each point (tie, sign) of those that stand there, by ties."""
    stars = [[] for _ in range(web.points)]
    for number, tie in enumerate(web.ties):
        for point, sign in tie_ends(tie):
            stars[point].append((number, sign))
    return stars


def signed_pair(pair, sign):
    """A pair of bounds times a sign."""
    return pair if sign == 1 else (-pair[1], -pair[0])


def upper_number(pair, side):
    """The upper number of this side of a tie with these bounds."""
    return pair[1] if side == 1 else -pair[0]


def left_rows(star, bounds, total):
    """(tie, least, greatest) that the total and the others leave each tie of a point."""
    parts = [signed_pair(bounds[number], sign) for number, sign in star]
    low = total - sum([greatest for _, greatest in parts])
    high = total - sum([least for least, _ in parts])
    rows = []
    for (number, sign), (least, greatest) in zip(star, parts):
        # Its own part is taken back out of both sums.
        left = signed_pair((low + greatest, high + least), sign)
        rows.append((number, left[0], left[1]))
    return rows


def looked(star, bounds, total):
    """The bounds behind a look at a point, or None if nothing is left."""
    if not star and total != 0:
        return None
    behind = list(bounds)
    for number, least, greatest in left_rows(star, bounds, total):
        behind[number] = (max(least, bounds[number][0]), min(greatest, bounds[number][1]))
        if behind[number][0] > behind[number][1]:
            return None
    return behind


def bare_point(stars, totals):
    """The first point without ties whose total is not 0, or None."""
    for point, star in enumerate(stars):
        if not star and totals[point] != 0:
            return point
    return None


def round_moves(stars, totals, bounds, points):
    """{side: (upper number, point)}: what looks at these points cut, all by the bounds as they stand."""
    moves = {}
    for point in points:
        for number, least, greatest in left_rows(stars[point], bounds, totals[point]):
            for side, told in ((1, greatest), (-1, -least)):
                held = moves.get((number, side), (upper_number(bounds[number], side), point))
                if told < held[0]:
                    moves[number, side] = (told, point)
    return moves


def moved_bounds(bounds, moves):
    """The bounds behind the moves of a round."""
    behind = list(bounds)
    for (number, side), (told, _) in moves.items():
        behind[number] = (behind[number][0], told) if side == 1 else (-told, behind[number][1])
    return behind


def crossed_tie(bounds, moves):
    """The first moved tie to which no number is left, or None."""
    for number, _ in moves:
        if bounds[number][0] > bounds[number][1]:
            return number
    return None


def moved_points(ties, moves):
    """The points of moved ties: a look at any other one would move nothing."""
    return sorted({point for number, _ in moves for point, _ in tie_ends(ties[number])})


def most_rounds(web):
    """If so many rounds move something, nothing is left at last."""
    return 2 * len([tie for tie in web.ties if is_double(tie)]) + 2


def run_rounds(web, box):
    """(word, log, bounds): rounds till the word is clear, and what each one moved.

    "still": nothing moves any more; "bare": a point without ties has a total; "crossed": no number is left to
    some tie behind the last round; "endless": so many rounds have moved something that nothing will be left.
    """
    stars = point_stars(web)
    bounds, log = box.bounds, []
    if bare_point(stars, box.totals) is not None:
        return "bare", log, bounds
    due = list(range(web.points))
    most = most_rounds(web)
    while len(log) < most:
        moves = round_moves(stars, box.totals, bounds, due)
        if not moves:
            return "still", log, bounds
        log.append(moves)
        bounds = moved_bounds(bounds, moves)
        if crossed_tie(bounds, moves) is not None:
            return "crossed", log, bounds
        due = moved_points(web.ties, moves)
    return "endless", log, bounds
