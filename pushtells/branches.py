"""Webs of one component, trees or with one even ring, and their numbers, over points 0, 1, ..

`kind` and `court` are told as in `counts`. A tie is told by its pair of points, ascending.
"""

from math import comb, factorial

from pushtells.picks import digits_number, nth_digits, nth_order, nth_pick, order_number, pick_number

SIGNED = "signed"


def tree_count(points):
    """How many trees there are."""
    return power(points, max(points - 2, 0))


def power(base, many):
    """A number times itself, so many times."""
    product = 1
    for _ in range(many):
        product *= base
    return product


def ring_lengths(kind, points):
    """How long rings may be, ascending."""
    return list(range(4, points + 1, 2)) if kind == "alike" else list(range(3, points + 1))


def order_count(length):
    """How many rings go through so many points."""
    return factorial(length - 1) // 2


def row_count(points, length):
    """How many rows hang all other points on a ring."""
    return 1 if points == length else length * power(points, points - length - 1)


def ring_count(points, length):
    """How many webs have one ring, of this length."""
    return comb(points, length) * order_count(length) * row_count(points, length)


def sign_count(kind, points):
    """How many signs their ties may have: of one ring all but one of them."""
    return 1 << (points - 1) if kind == SIGNED else 1


def loose_count(court, points):
    """How many loose ties a tree may have, in all choices."""
    return 1 << points if court == 3 else 1


def component_count(kind, court, points):
    """How many webs of one component there are."""
    trees = tree_count(points) * loose_count(court, points)
    rings = sum([ring_count(points, length) for length in ring_lengths(kind, points)])
    return (trees + rings) * sign_count(kind, points)


def nth_component(kind, court, points, number):
    """(pairs, signs, loose): signs of the ties of these pairs, -1 for odd ones, and the points with a loose tie."""
    signs, loose = sign_count(kind, points), loose_count(court, points)
    trees = tree_count(points) * signs * loose
    if number < trees:
        at, rest = divmod(number, signs * loose)
        pairs = tree_pairs(points, nth_digits(points, max(points - 2, 0), at))
        marks = nth_digits(2, points, rest % loose) if court == 3 else []
        return pairs, pair_signs(kind, pairs, (), rest // loose), [at for at, mark in enumerate(marks) if mark == 1]
    number -= trees
    for length in ring_lengths(kind, points):
        many = ring_count(points, length) * signs
        if number < many:
            at, rest = divmod(number, signs)
            ring, pairs = nth_ring(points, length, at)
            return pairs, pair_signs(kind, pairs, ring, rest), []
        number -= many
    return None


def nth_ring(points, length, number):
    """(ring, pairs): its points along it, and the pairs of all ties."""
    rows = row_count(points, length)
    rest, row = divmod(number, rows)
    lot, order = divmod(rest, order_count(length))
    inside = nth_pick(points, length, lot)
    ring = nth_order(inside, order)
    return ring, sorted(ring_pairs(ring) + hung_pairs(points, inside, nth_row(points, inside, row)))


def nth_row(points, inside, number):
    """The row of neighbours by which the other points hang on a ring: the last of them is a point of it."""
    many = points - len(inside)
    if many == 0:
        return []
    first, last = divmod(number, len(inside))
    return nth_digits(points, many - 1, first) + [inside[last]]


def row_number(points, inside, row):
    """Back."""
    if not row:
        return 0
    return digits_number(points, row[:-1]) * len(inside) + inside.index(row[-1])


def ring_pairs(ring):
    """The pairs along a ring."""
    return [tuple(sorted([ring[at - 1], ring[at]])) for at in range(len(ring))]


def tree_pairs(points, row):
    """The pairs of the tree with this row, ascending."""
    if points == 1:
        return []
    # What is left behind the row is the greatest point and one more.
    return sorted(hung_pairs(points, [points - 1], row + [points - 1]))


def hung_pairs(points, inside, row):
    """The pairs of ties struck one after another, the neighbours being those of the row."""
    left = [0] * points
    for point in row:
        left[point] += 1
    free = [point not in inside for point in range(points)]
    pairs = []
    for neighbour in row:
        point = [at for at in range(points) if free[at] and left[at] == 0][0]
        free[point] = False
        left[neighbour] -= 1
        pairs.append(tuple(sorted([point, neighbour])))
    return pairs


def struck_row(points, inside, pairs):
    """The row of neighbours of what is struck, the least point with one tie again and again; none of those inside."""
    beside = [[] for _ in range(points)]
    for one, other in pairs:
        beside[one].append(other)
        beside[other].append(one)
    row = []
    for _ in range(points - len(inside)):
        point = [at for at in range(points) if len(beside[at]) == 1 and at not in inside][0]
        neighbour = beside[point][0]
        beside[point] = []
        beside[neighbour].remove(point)
        row.append(neighbour)
    return row


def free_pairs(pairs, ring):
    """The pairs whose signs are free: all but the greatest one of the ring."""
    if not ring:
        return pairs
    greatest = max(ring_pairs(ring))
    return [pair for pair in pairs if pair != greatest]


def pair_signs(kind, pairs, ring, number):
    """The signs of the ties of these pairs: of any web the free ones as the number tells."""
    if kind != SIGNED:
        return [-1 if kind == "alike" else 1 for _ in pairs]
    free = free_pairs(pairs, ring)
    signs = {pair: 1 - 2 * digit for pair, digit in zip(free, nth_digits(2, len(free), number))}
    product = 1
    for pair in ring_pairs(ring):
        product *= signs.get(pair, 1)
    return [signs.get(pair, product) for pair in pairs]


def component_number(kind, court, points, pairs, signs, loose):
    """The number of such a web of one component, all ascending."""
    ring = ring_of(points, pairs)
    free = free_pairs(pairs, ring)
    told = [0 if sign == 1 else 1 for pair, sign in zip(pairs, signs) if pair in free]
    rest = digits_number(2, told) if kind == SIGNED else 0
    if not ring:
        rest = rest * loose_count(court, points) + digits_number(2, [int(at in loose) for at in range(points)])
        # The last neighbour is always the greatest point.
        row = struck_row(points, [points - 1], pairs)[:-1]
        return digits_number(points, row) * sign_count(kind, points) * loose_count(court, points) + rest
    inside = sorted(ring)
    at = pick_number(points, inside) * order_count(len(ring)) + order_number(ring)
    at = at * row_count(points, len(ring)) + row_number(points, inside, struck_row(points, inside, pairs))
    trees = tree_count(points) * loose_count(court, points)
    shorter = [length for length in ring_lengths(kind, points) if length < len(ring)]
    ahead = trees + sum([ring_count(points, length) for length in shorter])
    return (ahead + at) * sign_count(kind, points) + rest


def ring_of(points, pairs):
    """The points of the one ring from its least one on, to the lesser of its two neighbours; () of a tree."""
    if len(pairs) < points:
        return ()
    beside = [[] for _ in range(points)]
    for one, other in pairs:
        beside[one].append(other)
        beside[other].append(one)
    ends = [at for at in range(points) if len(beside[at]) == 1]
    while ends:
        point = ends.pop()
        neighbour = beside[point][0]
        beside[point] = []
        beside[neighbour].remove(point)
        if len(beside[neighbour]) == 1:
            ends.append(neighbour)
    begin = [at for at in range(points) if beside[at]][0]
    ring = [begin, min(beside[begin])]
    while ring[-1] != begin:
        first, second = beside[ring[-1]]
        ring.append(second if first == ring[-2] else first)
    return tuple(ring[:-1])
