"""Ties one by one, and rows of them: ways and rings. Ties are a web's tuples, rows are of their numbers."""

from pushtells.checks import is_below


def is_double(tie):
    """Whether it stands in two points."""
    return len(tie) == 4


def tie_ends(tie):
    """(point, sign) of each end."""
    if len(tie) == 2:
        return [tie]
    return [(tie[0], tie[1]), (tie[2], tie[3])]


def sign_at(tie, point):
    """The sign with which it stands at this point of its own."""
    return tie[1] if tie[0] == point else tie[3]


def other_point(tie, point):
    """Of a tie of two points the one that is not this one."""
    return tie[2] if tie[0] == point else tie[0]


def tie_sign(tie):
    """Of a tie of two points: 1 if it is even, -1 if it is odd."""
    return -tie[1] * tie[3]


def tie_cancels(tie, signs):
    """Whether its signs times those of its points come to 0, neither being 0."""
    return len(tie) == 4 and signs[tie[0]] != 0 and signs[tie[2]] == tie_sign(tie) * signs[tie[0]]


def doubles_of(ties):
    """The numbers of the ties of two points, ascending."""
    return [number for number, tie in enumerate(ties) if is_double(tie)]


def points_of(ties, row):
    """The points of these ties, ascending."""
    return sorted({point for number in row for point, _ in tie_ends(ties[number])})


def row_product(ties, row):
    """1 if evenly many of these ties of two points are odd, else -1."""
    product = 1
    for number in row:
        product *= tie_sign(ties[number])
    return product


def are_doubles(ties, row):
    """Whether all things in a sequence are numbers of ties of two points."""
    return all([is_below(number, len(ties)) and is_double(ties[number]) for number in row])


def way_begin(ties, row):
    """The point at which a row of one tie of two points or more has to begin as a way, or None."""
    first = ties[row[0]]
    if len(row) == 1:
        return first[0]
    second = ties[row[1]]
    loose_ends = [point for point in (first[0], first[2]) if point not in (second[0], second[2])]
    return loose_ends[0] if len(loose_ends) == 1 else None


def way_points(ties, row):
    """The points of a sequence of any values along it, if it is a way of one tie or more, else None."""
    if not row or not are_doubles(ties, row):
        return None
    begin = way_begin(ties, row)
    if begin is None:
        return None
    along = [begin]
    for number in row:
        tie = ties[number]
        if along[-1] not in (tie[0], tie[2]):
            return None
        along.append(other_point(tie, along[-1]))
    return along if len(set(along)) == len(along) else None


def ring_points(ties, row):
    """The points of a sequence of any values along it, if it is a ring, else None."""
    if len(row) < 2 or not are_doubles(ties, row) or row[0] == row[-1]:
        return None
    along = way_points(ties, row[:-1])
    closing = ties[row[-1]]
    if along is None or sorted([along[0], along[-1]]) != [closing[0], closing[2]]:
        return None
    return along
