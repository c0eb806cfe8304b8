"""Which looks, how often, tell an upper number that rounds came to."""

from pushtells.rows import sign_at


def used_sides(ties, stars, side, point):
    """The sides of the other ties by which a look at a point claims this side of a tie there."""
    direction = side[1] * sign_at(ties[side[0]], point)
    return [(number, -direction * sign) for number, sign in stars[point] if number != side[0]]


def weighed(ties, weights):
    """The weighed looks of {(side, point): weight}, ascending."""
    rows = []
    for (side, point), weight in weights.items():
        number = side[0]
        rows.append((point, side[1] * sign_at(ties[number], point), number, weight))
    return tuple(sorted(rows))


def looks_back(ties, stars, log, wanted, turns):
    """The weighed looks by which the bounds as handed in tell what is wanted behind the last round.

    `wanted` is {side: how often}. `turns` is {round: (claimed side, used side)}: a look of that round that is
    taken besides, its used side being paid for by the look of the round ahead.
    """
    weights = {}
    for at in range(len(log) - 1, -1, -1):
        older = {}
        for side, often in wanted.items():
            if side in log[at]:
                take_look(ties, stars, log[at], side, often, weights, older)
            else:
                older[side] = older.get(side, 0) + often
        if at in turns:
            claimed, used = turns[at]
            take_look(ties, stars, log[at], claimed, 1, weights, older)
            older[used] -= 1
        wanted = {side: older[side] for side in older if older[side] > 0}
    return weighed(ties, weights)


def take_look(ties, stars, moves, side, often, weights, older):
    """Takes the look that moved a side so often, and wants what it uses as it stood ahead of it."""
    point = moves[side][1]
    weights[side, point] = weights.get((side, point), 0) + often
    for used in used_sides(ties, stars, side, point):
        older[used] = older.get(used, 0) + often


def moved_by(ties, stars, log, at, side):
    """A side that moved in the round ahead by its other point, and so let this one move."""
    point = log[at][side][1]
    for used in used_sides(ties, stars, side, point):
        if used in log[at - 1] and log[at - 1][used][1] != point:
            return used
    return None


def turning_row(ties, stars, log):
    """Of rounds that never end a row of looks, one a round, from a side back to itself, for `looks_back`."""
    at = len(log) - 1
    side = list(log[at])[0]
    places = {}
    turns = {}
    while side not in places:
        places[side] = at
        used = moved_by(ties, stars, log, at, side)
        turns[at] = (side, used)
        side = used
        at -= 1
    return {at: turns[at] for at in turns if at <= places[side]}
