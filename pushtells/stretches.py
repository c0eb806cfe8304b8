"""What is left of the ties of a sheet, by lots of points that hang together.

Points and ties are rows as in `stands`. A lot's part is (web, box, ties): the lot as a web of its own, points and ties
in their order, and the numbers of its ties.
"""

from pushtells.boxes import Box
from pushtells.tighten import tightened
from pushtells.webs import Web, components, moved_tie


def whole_part(points, ties):
    """The part of all that is there, if anything is."""
    places = {point: place for place, (point, _) in enumerate(points)}
    web = Web(len(points), [moved_tie(row[1], places) for row in ties])
    box = Box(web, [(least, greatest) for _, _, least, greatest in ties], [total for _, total in points])
    return web, box, tuple([row[0] for row in ties])


def lots_of(points, ties):
    """The lots of points that hang together, ascending."""
    if not points:
        return ()
    web = whole_part(points, ties)[0]
    return tuple([tuple([points[place][0] for place in lot]) for lot in components(web)])


def part_at(points, ties, lot):
    """The part of a lot."""
    inside = {point: True for point in lot}
    return whole_part([row for row in points if row[0] in inside], [row for row in ties if row[1][0] in inside])


def lot_with(points, ties, point):
    """The lot with a point that is there."""
    return [lot for lot in lots_of(points, ties) if point in lot][0]


def part_with(points, ties, number):
    """The part with a tie that is there."""
    told = [row[1] for row in ties if row[0] == number][0]
    return part_at(points, ties, lot_with(points, ties, told[0]))


def part_stretches(part):
    """(tie, stretch) of the ties of a part, ascending."""
    web, box, numbers = part
    end = tightened(web, box)
    return [(number, None if end is None else end.bounds[at]) for at, number in enumerate(numbers)]


def all_stretches(points, ties):
    """(tie, stretch) of all ties, ascending."""
    found = []
    for lot in lots_of(points, ties):
        found.extend(part_stretches(part_at(points, ties, lot)))
    return tuple(sorted(found))


def is_empty_lot(points, ties, lot):
    """Whether nothing is left of a lot."""
    web, box, _ = part_at(points, ties, lot)
    return tightened(web, box) is None
