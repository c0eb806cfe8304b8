"""The two copies of each tie above a web, and flows along them, over plain numbers.

Side 2 s is the balance of point s, side 2 s + 1 the balance turned about. All ties above have unlike signs: what
they have flows from the side where it counts less to the side where it counts more. What loose ties have comes
from a ground, or goes there.
"""

from pushtells.flows import nearly_served, served
from pushtells.hang import neighbours, spread
from pushtells.rows import doubles_of


def upper_side(point, sign):
    """The side of a point where this sign is 1."""
    return 2 * point if sign == 1 else 2 * point + 1


def copied_ties(ties):
    """Of each tie both copies, 2 e and 2 e + 1, as ties of the sides."""
    found = []
    for tie in ties:
        first = upper_side(tie[0], tie[1])
        if len(tie) == 2:
            found.extend([(first, 1), (first ^ 1, -1)])
        else:
            second = upper_side(tie[2], -tie[3])
            found.extend([(first, 1, second, -1), (first ^ 1, -1, second ^ 1, 1)])
    return found


def side_totals(totals):
    """The totals of both sides of each point."""
    found = []
    for total in totals:
        found.extend([total, -total])
    return found


def copy_arc(copy, ground):
    """(start, aim) of a copy."""
    other = copy[2] if len(copy) == 4 else ground
    return (other, copy[0]) if copy[1] == 1 else (copy[0], other)


def copy_flows(points, ties, bounds, totals, chosen):
    """(arcs, needs) of the chosen copies, with such bounds for each one, the ground behind all sides."""
    ground = 2 * points
    copies = copied_ties(ties)
    needs = side_totals(totals) + [0]
    arcs = []
    for copy in chosen:
        start, aim = copy_arc(copies[copy], ground)
        least, greatest = bounds[copy]
        needs[start] += least
        needs[aim] -= least
        arcs.append((start, aim, greatest - least))
    return arcs, needs


def twice(pairs):
    """The bounds of both copies of each tie."""
    return [pair for pair in pairs for _ in range(2)]


def stretched(pairs, weights, p, q):
    """All bounds q times, and wider by p times a weight on both sides."""
    return [(q * least - p * weight, q * most + p * weight) for (least, most), weight in zip(pairs, weights)]


def worst_row(points, ties, bounds, totals):
    """Signs with the greatest shortage, as few of them as can be."""
    ground = 2 * points
    arcs, needs = copy_flows(points, ties, twice(bounds), totals, list(range(2 * len(ties))))
    # The ground has so much that whatever it may bring is there.
    needs[ground] = -1 - sum([room for start, _, room in arcs if start == ground])
    _, _, far = served(arcs, needs)
    return tuple([(1 if 2 * point in far else 0) - (1 if 2 * point + 1 in far else 0) for point in range(points)])


def kept_sides(points, copies):
    """Of each component without odd rings the sides that hang together with one, of each other one all sides."""
    beside = neighbours(2 * points, copies, doubles_of(copies))
    kept = {}
    for point in range(points):
        if 2 * point not in kept and 2 * point + 1 not in kept:
            for side in spread(beside, [2 * point]):
                kept[side] = True
    return kept


def copy_numbers(points, ties, bounds, totals):
    """A whole number for each copy, alike for both of a tie on no odd ring's component, or None if nothing fits."""
    copies = copied_ties(ties)
    kept = kept_sides(points, copies)
    chosen = [copy for copy in range(len(copies)) if copies[copy][0] in kept]
    arcs, needs = copy_flows(points, ties, bounds, totals, chosen)
    needs = [need if side in kept else 0 for side, need in enumerate(needs[:-1])]
    # What the sides lack in all is just what comes from the ground.
    needs.append(-sum(needs))
    lacking, flows, _ = served(arcs, needs)
    if lacking > 0:
        return None
    found = {copy: bounds[copy][0] + flow for copy, flow in zip(chosen, flows)}
    return [found[copy] if copy in found else found[copy ^ 1] for copy in range(len(copies))]


def nearest_numbers(points, ties, bounds, totals):
    """A whole number for each copy, with bounds for each tie, whose sums are off the totals as little as can be."""
    ground = 2 * points
    pairs = twice(bounds)
    arcs, needs = copy_flows(points, ties, pairs, totals, list(range(len(pairs))))
    flows = nearly_served(arcs, needs[:-1] + [0], ground)
    return [least + flow for (least, _), flow in zip(pairs, flows)]
