"""What hangs together by ties of two points. Points and ties are numbers, `ties` a web's tuples."""

from pushtells.rows import tie_cancels, tie_sign


def neighbours(points, ties, chosen):
    """For each point (tie, other point) for each chosen tie of two points there."""
    beside = [[] for _ in range(points)]
    for number in chosen:
        first, second = ties[number][0], ties[number][2]
        beside[first].append((number, second))
        beside[second].append((number, first))
    return beside


def spread(beside, starts):
    """What is reached from the starts, nearest first: by which tie and from where, None for a start."""
    ups = {start: None for start in starts}
    queue = list(starts)
    at = 0
    while at < len(queue):
        point = queue[at]
        at += 1
        for number, other in beside[point]:
            if other not in ups:
                ups[other] = (number, point)
                queue.append(other)
    return ups


def spreads(beside, points):
    """Of each lot of these points that hang together, by least points, what is reached from its least one."""
    seen = set()
    found = []
    for point in points:
        if point not in seen:
            ups = spread(beside, [point])
            for reached in ups:
                seen.add(reached)
            found.append(ups)
    return found


def trail(ups, point):
    """The ties from a point back to where the spreading began."""
    row = []
    while ups[point] is not None:
        number, point = ups[point]
        row.append(number)
    return row


def closed_ring(ties, ups, number):
    """The ring that a tie closes with the ties by which its points were reached."""
    first, second = trail(ups, ties[number][0]), trail(ups, ties[number][2])
    while first and second and first[-1] == second[-1]:
        first.pop()
        second.pop()
    return (number, *second, *first[::-1])


def signs_along(ties, ups):
    """Signs by which the ties along which points were reached cancel, 1 at the start."""
    signs = {}
    for point in ups:
        if ups[point] is None:
            signs[point] = 1
        else:
            number, before = ups[point]
            signs[point] = tie_sign(ties[number]) * signs[before]
    return signs


def sign_row(points, signs):
    """The signs that a dict tells, 0 at all other points."""
    return tuple([signs.get(point, 0) for point in range(points)])


def cancelling(ties, signs):
    """The numbers of the ties that cancel, ascending."""
    return [number for number, tie in enumerate(ties) if tie_cancels(tie, signs)]


def closing_ties(points, ties):
    """The ties that close a ring with ties ahead of them, ascending."""
    heads = list(range(points))
    found = []
    for number, tie in enumerate(ties):
        if len(tie) == 4:
            first, second = head_of(heads, tie[0]), head_of(heads, tie[2])
            if first == second:
                found.append(number)
            else:
                heads[second] = first
    return found


def head_of(heads, point):
    while heads[point] != point:
        # Pointing on past the next one keeps the next searches short.
        heads[point] = heads[heads[point]]
        point = heads[point]
    return point
