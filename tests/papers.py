"""All papers of small webs, found by trying, for tests of what tells and judges them."""

import itertools

from tests.helpers import (all_rings, all_ways, bad_pieces, doubles, ends_of, inner_points, points_in, sign_of)


def blocks_by_hand(web):
    """Ties that some ring has both of are in one block."""
    rings = [set(ring) for ring in all_rings(web)]
    found = set()
    for number in doubles(web):
        found.add(tuple(sorted({number}.union(*[ring for ring in rings if number in ring]))))
    return tuple(sorted(found))


def papers_of(web, block):
    """All papers of a block that is not bad, by all its turnings."""
    rings = [ring for ring in all_rings(web, block) if len(ring) == len(block)]
    if len(block) == 1:
        return [("tie", block[0])]
    if len(points_in(web, block)) == len(block):
        return [("even" if sign_of(web, ring) == 1 else "odd", ring) for ring in rings]
    return chain_papers(web, block) + four_papers(web, block)


def chain_papers(web, block):
    """Every closed row of links that has just these ties."""
    points = points_in(web, block)
    ways = {pair: all_ways(web, *pair, block) for pair in itertools.permutations(points, 2)}
    found = []
    for begin in points:
        for links in link_rows(web, block, ways, begin, begin, {begin}):
            if sum(links_size(link) for link in links) == len(block) and any(link[0] == "bead" for link in links):
                found.append(("chain", links))
    return found


def links_size(link):
    return 1 if link[0] == "tie" else len(link[1]) + len(link[2])


def link_rows(web, left, ways, begin, here, passed):
    """All rows of links from here back to the begin, of the ties that are left."""
    for (one, other), rows in ways.items():
        if one != here or (other in passed and other != begin):
            continue
        links = [(("tie", row[0]), []) for row in rows if len(row) == 1]
        for first, second in itertools.permutations(rows, 2):
            inner = inner_points(web, first, one) + inner_points(web, second, one)
            if sign_of(web, first + second) == -1 and len(set(inner)) == len(inner):
                links.append((("bead", first, second), inner))
        for link, inner in links:
            used = link[1:] if link[0] == "tie" else link[1] + link[2]
            if any(number not in left for number in used) or any(point in passed for point in inner):
                continue
            rest = [number for number in left if number not in used]
            if other == begin:
                yield (link,)
            else:
                for onward in link_rows(web, rest, ways, begin, other, passed | {other} | set(inner)):
                    yield (link,) + onward


def four_papers(web, block):
    """Every four that has just these ties."""
    found = []
    for corners in itertools.combinations(points_in(web, block), 4):
        choices = [all_ways(web, one, other, block) for one, other in itertools.combinations(corners, 2)]
        for ways in itertools.product(*choices):
            if sum(len(way) for way in ways) == len(block) and is_four(web, corners, ways):
                found.append(("four", corners, ways))
    return found


def is_four(web, corners, ways):
    pairs = list(itertools.combinations(range(4), 2))
    inner = [p for (a, _), way in zip(pairs, ways) for p in inner_points(web, way, corners[a])]
    if len(set(inner) | set(corners)) != len(inner) + 4:
        return False
    return all(sign_of(web, ways[pairs.index((a, b))] + ways[pairs.index((a, c))] + ways[pairs.index((b, c))]) == -1
               for a, b, c in itertools.combinations(range(4), 3))


def kind_by_hand(web, block):
    papers = papers_of(web, block)
    return papers[0][0] if papers else "bad"


def bad_papers(web, block=None, word="bad"):
    """All papers that tell a bad piece, of a block or of the web."""
    return [(word, row, signs) for row, each in bad_pieces(web, block).items() for signs in each]


def way_triples(web):
    """All ("ways", ..) papers."""
    found = []
    for one, other in itertools.combinations(range(web.points), 2):
        for ways in itertools.permutations(all_ways(web, one, other), 3):
            inner = [point for way in ways for point in inner_points(web, way, one)]
            ties = sum(ways, ())
            if len(set(inner)) == len(inner) and len(set(ties)) == len(ties):
                if len({sign_of(web, way) for way in ways}) == 1:
                    found.append(("ways", ways))
    return found


def ring_pairs(web):
    """All ("rings", ..) papers."""
    evens = [ring for ring in all_rings(web) if sign_of(web, ring) == 1]
    found = []
    for one, other in itertools.product(evens, repeat=2):
        here, there = set(points_in(web, one)), set(points_in(web, other))
        if len(here & there) == 1:
            found.append(("rings", one, other, ()))
        if not here & there:
            for begin, end in itertools.product(here, there):
                for way in all_ways(web, begin, end):
                    if not set(inner_points(web, way, begin)) & (here | there):
                        found.append(("rings", one, other, way))
    return found


def court1_by_hand(web):
    """By the third way of the first court: what each component has of each kind."""
    cores = {}
    for block in blocks_by_hand(web):
        kind = kind_by_hand(web, block)
        if kind == "bad":
            return False
        if kind not in ("tie", "odd"):
            lot = component_of(web, ends_of(web, block[0])[0])
            if lot in cores:
                return False
            cores[lot] = True
    return True


def component_of(web, point):
    lot = {point}
    while True:
        more = {x for number in doubles(web) if lot & set(ends_of(web, number)) for x in ends_of(web, number)} - lot
        if not more:
            return tuple(sorted(lot))
        lot |= more
