"""Ties that bring something new one by one, swings, and signs that pull at single ties.

Ties bring nothing new where some swing has them and ties ahead of them alone. Ties are a web's tuples, rows are of
their numbers.
"""

from math import gcd

from pushtells.hang import neighbours, sign_row, signs_along, spread, spreads
from pushtells.rows import is_double, other_point, tie_ends, tie_sign
from pushtells.signs import tie_pull


def basis_of(points, ties, order):
    """Those of the ties in this order each of which brings something new."""
    homes, turns = list(range(points)), [1] * points
    lots, full = [[point] for point in range(points)], [False] * points
    kept = []
    for number in order:
        if brings_new(ties[number], homes, turns, lots, full):
            kept.append(number)
    return kept


def brings_new(tie, homes, turns, lots, full):
    """Whether a tie brings something new; then its lots are joined, or the one is full.

    A lot hangs together by ties that cancel by its turns; it is full once it has another tie, or a loose one.
    """
    one, other = homes[tie[0]], homes[tie[-2]]
    if full[one] and full[other]:
        return False
    if one == other:
        full[one] = tie_pull(tie, turns) != 0
        return full[one]
    turn = tie_sign(tie) * turns[tie[0]] * turns[tie[2]]
    moved = lots[other]
    for point in moved:
        homes[point] = one
        turns[point] *= turn
    lots[one] = lots[one] + moved
    full[one] = full[one] or full[other]
    return True


def carried(points, ties, basis, needs):
    """({tie: number}, rest): what the ties of a basis must have, and what they leave of these even needs."""
    rest, numbers = list(needs), {}
    standing = [{} for _ in range(points)]
    for number in basis:
        for point, _ in tie_ends(ties[number]):
            standing[point][number] = True
    settle_single(ties, standing, rest, numbers, list(range(points)))
    for point in range(points):
        if standing[point]:
            # Only odd rings are left now.
            number = list(standing[point])[0]
            settle(ties, standing, rest, numbers, number, ring_number(ties, standing, rest, number))
            settle_single(ties, standing, rest, numbers, [ties[number][0], ties[number][2]])
    return numbers, rest


def settle(ties, standing, rest, numbers, number, value):
    """Give a tie its number, and take this off what is left at its points."""
    numbers[number] = value
    for point, sign in tie_ends(ties[number]):
        standing[point].pop(number)
        rest[point] -= sign * value


def settle_single(ties, standing, rest, numbers, points):
    """Settle ties that stand alone at one of these points, or come to stand alone at their other one."""
    due = list(points)
    while due:
        point = due.pop()
        if len(standing[point]) == 1:
            number = list(standing[point])[0]
            sign = [end[1] for end in tie_ends(ties[number]) if end[0] == point][0]
            settle(ties, standing, rest, numbers, number, sign * rest[point])
            due.extend([end for end, _ in tie_ends(ties[number])])


def ring_number(ties, standing, rest, number):
    """What a tie of an odd ring must have, by signs along the ring by which all others cancel."""
    first, last = ties[number][2], ties[number][0]
    point, sign, before = first, 1, number
    due = rest[point]
    while point != last:
        along = [other for other in standing[point] if other != before][0]
        point, sign, before = other_point(ties[along], point), sign * tie_sign(ties[along]), along
        due += sign * rest[point]
    return due // (ties[number][3] + sign * ties[number][1])


def swing_of(points, ties, basis, tie):
    """The swing of a tie and those of a basis, in lowest terms, above 0 at the tie; None if it brings something new."""
    needs = [0] * points
    for point, sign in tie_ends(ties[tie]):
        needs[point] -= 2 * sign
    numbers, rest = carried(points, ties, basis, needs)
    if any([left != 0 for left in rest]):
        return None
    numbers[tie] = 2
    common = 0
    for value in list(numbers.values()):
        common = gcd(common, value)
    return tuple([numbers.get(number, 0) // common for number in range(len(ties))])


def level_signs(ties, chosen, ups):
    """{point: sign} by which all chosen ties at the points reached cancel, 1 at the start; None if there are none."""
    signs = signs_along(ties, ups)
    for number in chosen:
        inside = [(point, sign) for point, sign in tie_ends(ties[number]) if point in signs]
        if sum([sign * signs[point] for point, sign in inside]) != 0:
            return None
    return signs


def level_rows(points, ties, chosen):
    """The signs, by least points, of each lot that hangs together by chosen ties all of which cancel."""
    beside = neighbours(points, ties, [number for number in chosen if is_double(ties[number])])
    found = [level_signs(ties, chosen, ups) for ups in spreads(beside, list(range(points)))]
    return [sign_row(points, signs) for signs in found if signs is not None]


def pulling_signs(points, ties, others, tie):
    """Signs that pull at a tie and at none of the others, or None."""
    beside = neighbours(points, ties, [number for number in others if is_double(ties[number])])
    for point, _ in tie_ends(ties[tie]):
        signs = level_signs(ties, others, spread(beside, [point]))
        if signs is not None:
            row = sign_row(points, signs)
            if tie_pull(ties[tie], row) != 0:
                return row
    return None
