"""The second and the third court: whole numbers, and each value, wherever nothing moves."""

from pushtells.checks import is_below, is_paper, is_sign_row
from pushtells.hang import closed_ring, neighbours, sign_row, signs_along, spread, trail
from pushtells.leads import is_bad_piece, is_ring_of
from pushtells.rows import doubles_of, is_double, ring_points, tie_cancels, tie_ends, way_points
from pushtells.webs import check_web, web_spreads


def left_ties(web):
    """The ties that are left when points of one tie are struck out with it, again and again."""
    check_web(web)
    return tuple(left_of(web, list(range(len(web.ties)))))


def left_of(web, chosen):
    """What striking points of one tie, again and again, leaves of the chosen ties, ascending."""
    standing = [{} for _ in range(web.points)]
    for number in chosen:
        for point, _ in tie_ends(web.ties[number]):
            standing[point][number] = True
    due = [point for point in range(web.points) if len(standing[point]) == 1]
    gone = set()
    while due:
        row = list(standing[due.pop()])
        # Its one tie may have gone with the other point of it.
        if row:
            gone.add(row[0])
            for end, _ in tie_ends(web.ties[row[0]]):
                standing[end].pop(row[0])
                if len(standing[end]) == 1:
                    due.append(end)
    return [number for number in chosen if number not in gone]


def odd_paper(web):
    """("odd", ring) for some odd ring, or None."""
    for ups in web_spreads(web):
        signs = sign_row(web.points, signs_along(web.ties, ups))
        for number in doubles_of(web.ties):
            if web.ties[number][0] in ups and not tie_cancels(web.ties[number], signs):
                return "odd", closed_ring(web.ties, ups, number)
    return None


def component_rows(web):
    """For each component what is reached in it, its ties of two points, and its loose ones."""
    found = []
    for ups in web_spreads(web):
        inner = [number for number, tie in enumerate(web.ties) if tie[0] in ups]
        row = [number for number in inner if is_double(web.ties[number])]
        found.append((ups, row, [number for number in inner if not is_double(web.ties[number])]))
    return found


def piece_paper(web):
    """("piece", ties, signs) for some component without odd rings that has two rings or more, or None."""
    for ups, row, _ in component_rows(web):
        if len(row) > len(ups):
            return "piece", tuple(row), sign_row(web.points, signs_along(web.ties, ups))
    return None


def yes_paper(web):
    """("yes", signs) of a web without odd rings."""
    signs = {}
    for ups in web_spreads(web):
        signs.update(signs_along(web.ties, ups))
    return "yes", sign_row(web.points, signs)


def way_paper(web):
    """("way", ring, way) for some component with one ring, an even one, and a loose tie, or None."""
    for ups, row, loose in component_rows(web):
        if len(row) == len(ups) and loose:
            along = {up[0]: True for up in list(ups.values()) if up is not None}
            closing = [number for number in row if number not in along][0]
            ring = closed_ring(web.ties, ups, closing)
            beside = neighbours(web.points, web.ties, row)
            outward = spread(beside, ring_points(web.ties, ring))
            way = trail(outward, web.ties[loose[0]][0])[::-1]
            return "way", ring, tuple(way) + (loose[0],)
    return None


def first_of(papers):
    """The first one that is no None."""
    return [paper for paper in papers if paper is not None][0]


def court2(web):
    """Whether each component has at most one ring, and that even."""
    return court2_paper(web)[0] == "yes"


def court2_paper(web):
    """What shows whether each component has at most one ring, and that even."""
    check_web(web)
    return first_of([odd_paper(web), piece_paper(web), yes_paper(web)])


def court2_holds(web, value):
    """Whether any value is such a paper, each sort by itself."""
    check_web(web)
    if is_paper(value, "yes", 2):
        return is_yes(web, value) and not crowded(web)
    return is_odd(web, value) or is_piece(web, value)


def court3(web):
    """Whether each component is a tree, or one even ring and nothing loose."""
    return court3_paper(web)[0] == "yes"


def court3_paper(web):
    """What shows whether each component is a tree, or has one even ring and nothing loose."""
    check_web(web)
    return first_of([odd_paper(web), piece_paper(web), way_paper(web), yes_paper(web)])


def court3_holds(web, value):
    """Whether any value is such a paper, each sort by itself."""
    check_web(web)
    if is_paper(value, "yes", 2):
        leaking = [row for row in component_rows(web) if is_full_and_loose(row)]
        return is_yes(web, value) and not crowded(web) and not leaking
    return is_odd(web, value) or is_piece(web, value) or is_way(web, value)


def crowded(web):
    """Whether some component has more ties of two points than points."""
    return any([len(row) > len(ups) for ups, row, _ in component_rows(web)])


def is_full_and_loose(told):
    """Whether a component has as many ties of two points as points, and a loose one."""
    ups, row, loose = told
    return len(row) == len(ups) and len(loose) > 0


def is_yes(web, value):
    """Whether a paper of "yes" has signs, none 0, by which all ties of two points cancel."""
    if not is_sign_row(value[1], web.points) or 0 in value[1]:
        return False
    return all([tie_cancels(tie, value[1]) for tie in web.ties if is_double(tie)])


def is_odd(web, value):
    """Whether any value is ("odd", ring) with an odd ring."""
    return is_paper(value, "odd", 2) and is_ring_of(web.ties, value[1], -1)


def is_piece(web, value):
    """Whether any value is ("piece", ties, signs) with a bad piece."""
    return is_paper(value, "piece", 3) and is_bad_piece(web.points, web.ties, value[1], value[2])


def is_way(web, value):
    """Whether any value is ("way", ring, way) with an even ring and a way from it to a loose tie."""
    if not is_paper(value, "way", 3) or not is_ring_of(web.ties, value[1], 1):
        return False
    return isinstance(value[2], tuple) and leads_out(web, ring_points(web.ties, value[1]), value[2])


def leads_out(web, inside, way):
    """Whether a tuple of any values leads from one of these points, through others alone, to a loose tie."""
    if not way or not is_below(way[-1], len(web.ties)) or is_double(web.ties[way[-1]]):
        return False
    last = web.ties[way[-1]][0]
    if len(way) == 1:
        return last in inside
    along = way_points(web.ties, way[:-1])
    if along is None:
        return False
    if len(along) == 2 and along[0] not in inside:
        along = along[::-1]
    outside = [point for point in along[1:] if point not in inside]
    return along[0] in inside and len(outside) == len(along) - 1 and along[-1] == last
