"""The papers of the second and the third court by the words of the document alone, for tests."""

from tests.helpers import (all_rings, bad_pieces, doubles, ends_of, integers, lots_by_hand, pull_of, sign_of,
                           told_as)


def inner_ties(web, lot):
    return [number for number in doubles(web) if web.ties[number][0] in lot]


def loose_ties(web, lot):
    return [number for number, tie in enumerate(web.ties) if len(tie) == 2 and tie[0] in lot]


def court2_by_hand(web):
    """At most one ring a component, and that even."""
    rings = {frozenset(ring): sign_of(web, ring) for ring in all_rings(web)}
    for lot in lots_by_hand(web):
        inside = [sign for ring, sign in rings.items() if ring <= set(inner_ties(web, lot))]
        if len(inside) > 1 or -1 in inside:
            return False
    return True


def court3_by_hand(web):
    """A tree with any loose ties, or one ring, an even one, and none."""
    rings = [set(ring) for ring in all_rings(web)]
    for lot in lots_by_hand(web):
        if any(ring <= set(inner_ties(web, lot)) for ring in rings) and loose_ties(web, lot):
            return False
    return court2_by_hand(web)


def is_yes(web, value, third):
    if not told_as(value, "yes", 2) or not integers(value[1], web.points) or not set(value[1]) <= {1, -1}:
        return False
    if any(pull_of(web.ties[number], value[1]) != 0 for number in doubles(web)):
        return False
    for lot in lots_by_hand(web):
        many = len(inner_ties(web, lot))
        if many > len(lot) or (third and many == len(lot) and loose_ties(web, lot)):
            return False
    return True


def is_odd(web, value):
    if not told_as(value, "odd", 2) or type(value[1]) is not tuple or any(type(x) is not int for x in value[1]):
        return False
    return value[1] in all_rings(web) and sign_of(web, value[1]) == -1


def is_piece(web, value):
    if not told_as(value, "piece", 3) or type(value[1]) is not tuple or any(type(x) is not int for x in value[1]):
        return False
    signs = bad_pieces(web).get(value[1], []) if web.ties else []
    return integers(value[2], web.points) and value[2] in signs


def is_way(web, value):
    if not told_as(value, "way", 3) or type(value[1]) is not tuple or type(value[2]) is not tuple or not value[2]:
        return False
    if any(type(x) is not int or not 0 <= x < len(web.ties) for x in value[1] + value[2]):
        return False
    if value[1] not in all_rings(web) or sign_of(web, value[1]) == -1:
        return False
    ring = {point for number in value[1] for point in ends_of(web, number)}
    return any(goes_out(web, ring, start, value[2]) for start in ring)


def goes_out(web, ring, start, way):
    """Whether the way leads from this point of the ring, no point twice, to its last tie, a loose one."""
    here, passed = start, {start}
    for number in way[:-1]:
        tie = web.ties[number]
        if len(tie) == 2 or here not in (tie[0], tie[2]):
            return False
        here = tie[0] + tie[2] - here
        if here in ring or here in passed:
            return False
        passed.add(here)
    return web.ties[way[-1]][0] == here and len(web.ties[way[-1]]) == 2


def holds2(web, value):
    return is_yes(web, value, False) or is_odd(web, value) or is_piece(web, value)


def holds3(web, value):
    return is_yes(web, value, True) or is_odd(web, value) or is_piece(web, value) or is_way(web, value)


def all_way_papers(web):
    """All papers of the sort "way" of a small web."""
    import itertools
    found = []
    rings = [ring for ring in all_rings(web) if sign_of(web, ring) == 1]
    loose = [number for number, tie in enumerate(web.ties) if len(tie) == 2]
    for many in range(web.points):
        for row in itertools.permutations(doubles(web), many):
            for last in loose:
                found += [("way", ring, row + (last,)) for ring in rings]
    return [value for value in found if is_way(web, value)]
