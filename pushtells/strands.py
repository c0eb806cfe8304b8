"""Rings and strands: rows of ties through points at which just two of them stand."""

from pushtells.rows import other_point


def ties_at(ties, chosen):
    """For each point of the chosen ties those that stand there."""
    stars = {}
    for number in chosen:
        for point in (ties[number][0], ties[number][2]):
            stars.setdefault(point, []).append(number)
    return stars


def follow(ties, stars, start, number, stops):
    """The row that goes on from a start along a tie to one of the stops, and this one."""
    row = [number]
    point = other_point(ties[number], start)
    while point not in stops:
        first, second = stars[point]
        row.append(second if first == row[-1] else first)
        point = other_point(ties[row[-1]], point)
    return tuple(row), point


def ring_row(ties, stars, number):
    """The ties of a ring, of which this is one, as they follow one another."""
    start = ties[number][0]
    row, _ = follow(ties, stars, start, number, [start])
    return row


def branch_points(stars):
    """The points at which three ties or more stand, ascending."""
    return [point for point in sorted(stars) if len(stars[point]) > 2]


def strands(ties, stars):
    """{(one, other): rows}: all rows between points at which three ties or more stand, from the lesser one on."""
    branches = branch_points(stars)
    seen = set()
    found = {}
    for branch in branches:
        for number in stars[branch]:
            if number not in seen:
                row, last = follow(ties, stars, branch, number, branches)
                for passed in row:
                    seen.add(passed)
                found.setdefault((branch, last), []).append(row)
    return found
