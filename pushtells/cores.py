"""How many webs of numbered points the first court lets: like signs, or any, by blocks and cores."""

from math import factorial

from pushtells.series import POWERS, alone, exponential, plus, power_of, scaled, slope, sum_of, times


def listed(numbers, under=1):
    """The series of these numbers."""
    return list(numbers), under


def block_series(alike):
    """Of the blocks that are ties or odd rings: how many there are, by their other points."""
    if alike:
        return sum_of([alone(1)] + [scaled(alone(length - 1), 1, 2) for length in range(3, POWERS + 1, 2)])
    return listed([0, 3] + [1 << (length - 2) for length in range(3, POWERS + 1)])


def ring_series(alike):
    """Of even rings, by their points."""
    if alike:
        return sum_of([scaled(alone(length), 1, 2 * length) for length in range(4, POWERS, 2)])
    return sum_of([scaled(alone(length), 1 << length, 4 * length) for length in range(3, POWERS)])


def chain_series(single, link):
    """Of chains of three links or more with two beads or more, by what links of one tie and what all links are."""
    rows = []
    bead = plus(link, scaled(single, -1))
    for many in range(3, POWERS):
        none = power_of(single, many)
        one = scaled(times(power_of(single, many - 1), bead), many)
        two = sum_of([power_of(link, many), scaled(none, -1), scaled(one, -1)])
        rows.append(scaled(two, 1, 2 * many))
    return sum_of(rows)


def core_series(alike):
    """Of all cores, by their points."""
    if alike:
        return alike_cores()
    way = listed([1 << power for power in range(POWERS)])
    pair = scaled(plus(power_of(way, 2), alone(0, -1)), 1, 2)
    doubled = scaled(times(alone(2), plus(scaled(times(pair, way), 2), power_of(pair, 2))), 1, 2)
    link = times(alone(1), plus(alone(0, 2), power_of(way, 2)))
    four = scaled(times(alone(4), power_of(way, 6)), 1, 3)
    return sum_of([ring_series(alike), doubled, chain_series(alone(1, 2), link), four])


def alike_cores():
    """Of all cores of like signs, by their points."""
    even = listed([power & 1 for power in range(POWERS)])
    odd = listed([1 - (power & 1) for power in range(POWERS)])
    others = plus(power_of(odd, 2), alone(0, -1))
    three = scaled(plus(times(power_of(even, 2), odd), times(even, others)), 1, 2)
    twice = scaled(times(power_of(even, 2), others), 1, 4)
    doubled = scaled(times(alone(2), plus(three, twice)), 1, 2)
    link = times(alone(1), plus(alone(0), times(even, odd)))
    rows = [power_of(odd, 6), scaled(times(power_of(even, 3), power_of(odd, 3)), 4),
            scaled(times(power_of(even, 4), power_of(odd, 2)), 3)]
    four = scaled(times(alone(4), sum_of(rows)), 1, 24)
    return sum_of([ring_series(True), doubled, chain_series(alone(1), link), four])


def trusted_counts(alike, most):
    """How many webs in one component the first court lets, of 1, 2 and up to so many points."""
    blocks, cores = block_series(alike), slope(core_series(alike))
    found = []
    for points in range(1, most + 1):
        grown = exponential(scaled(blocks, points))
        # At any point of a core, or of no core at all, hang so many blocks.
        rows = plus(scaled(grown, 1, points * points), scaled(times(cores, grown), 1, points))
        found.append(factorial(points) * rows[0][points - 1] // rows[1])
    return found
