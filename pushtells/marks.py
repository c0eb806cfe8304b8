"""The end to which a lot comes where only some of its bounds and totals stand.

Marks are ("least", tie), ("greatest", tie) and ("total", point), here by the numbers of a web. A side of a tie is told
as in `looks`; its upper number is missing where nothing tells it.
"""

from pushtells.looks import most_rounds, moved_points, point_stars

SIDES = {"least": -1, "greatest": 1}


def all_marks(web):
    """The marks of all bounds and totals, ascending."""
    ties = list(range(len(web.ties)))
    bounds = [(word, tie) for word in ("greatest", "least") for tie in ties]
    return bounds + [("total", point) for point in range(web.points)]


def uppers_by(web, box, marks):
    """{side: upper number} in the end to which these marks alone lead, or None if they leave nothing."""
    stars = point_stars(web)
    uppers, due = {}, []
    for word, number in marks:
        if word == "total":
            due.append(number)
        else:
            side = SIDES[word]
            uppers[number, side] = box.bounds[number][1] if side == 1 else -box.bounds[number][0]
    if any([not stars[point] and box.totals[point] != 0 for point in due]):
        return None
    looked = {point: True for point in due}
    for _ in range(most_rounds(web)):
        moves = upper_moves(stars, box.totals, uppers, due)
        if not moves:
            return uppers
        for side, told in moves.items():
            uppers[side] = told
        if any([is_crossed(uppers, tie) for tie, _ in moves]):
            return None
        due = [point for point in moved_points(web.ties, moves) if point in looked]
    return None


def is_crossed(uppers, tie):
    """Whether no number is left to a tie."""
    greatest, least = uppers.get((tie, 1)), uppers.get((tie, -1))
    return greatest is not None and least is not None and greatest < -least


def upper_moves(stars, totals, uppers, points):
    """{side: upper number}: what looks at these points cut, where all that a sum needs is there."""
    moves = {}
    for point in points:
        for direction in (1, -1):
            used = [(tie, -direction * sign) for tie, sign in stars[point]]
            missing = [side for side in used if side not in uppers]
            if len(missing) < 2:
                told = direction * totals[point] + sum([uppers.get(side, 0) for side in used])
                for tie, side in missing or used:
                    claim(moves, uppers, (tie, -side), told - uppers.get((tie, side), 0))
    return moves


def claim(moves, uppers, side, told):
    """Keep what a sum tells of a side, if nothing tells less."""
    held = moves.get(side, uppers.get(side))
    if held is None or told < held:
        moves[side] = told


def fewest_marks(marks, holds, told):
    """The marks that stay if one after another is struck whenever `holds` of the told things and the others."""
    standing = list(marks)
    for mark in marks:
        others = [other for other in standing if other != mark]
        if holds(told, others):
            standing = others
    return standing
