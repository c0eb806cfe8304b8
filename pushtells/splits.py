"""How ties of two points fall into blocks."""

from pushtells.hang import neighbours


def depth_first(beside):
    """All points as a walk that goes on from the newest one meets them: by which tie and from where."""
    ups = {}
    for root in range(len(beside)):
        if root not in ups:
            ups[root] = None
            walk_on(beside, root, ups)
    return ups


def walk_on(beside, root, ups):
    turns = {root: 0}
    path = [root]
    while path:
        point = path[-1]
        if turns[point] == len(beside[point]):
            path.pop()
            continue
        number, other = beside[point][turns[point]]
        turns[point] += 1
        if other not in ups:
            ups[other] = (number, point)
            turns[other] = 0
            path.append(other)


def lowest_places(beside, ups, places):
    """For each point the earliest place that a tie from it, or from what was met behind it, leads to."""
    lows = dict(places)
    for point in list(ups)[::-1]:
        for number, other in beside[point]:
            if ups[other] == (number, point):
                lows[point] = min(lows[point], lows[other])
            elif ups[point] is None or ups[point][0] != number:
                lows[point] = min(lows[point], places[other])
    return lows


def split_ties(points, ties, chosen):
    """(root, block) for each block of the chosen ties, ascending: root is one and the same for a component."""
    beside = neighbours(points, ties, chosen)
    ups = depth_first(beside)
    places = {point: place for place, point in enumerate(ups)}
    lows = lowest_places(beside, ups, places)
    labels, roots = {}, []
    for point in ups:
        if ups[point] is None:
            root = point
        elif lows[point] >= places[ups[point][1]]:
            labels[point] = len(roots)
            roots.append(root)
        else:
            labels[point] = labels[ups[point][1]]
    rows = [[] for _ in roots]
    for number in chosen:
        first, second = ties[number][0], ties[number][2]
        later = first if places[first] > places[second] else second
        rows[labels[later]].append(number)
    return [(root, tuple(row)) for root, row in zip(roots, rows)]


def split_blocks(points, ties, chosen):
    """The blocks of the chosen ties, ascending."""
    return sorted([block for _, block in split_ties(points, ties, chosen)])
