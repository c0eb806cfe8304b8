"""The papers of blocks that are not bad."""

from pushtells.rows import row_product
from pushtells.strands import branch_points, ring_row, strands, ties_at

PAIRS = ((0, 1), (0, 2), (0, 3), (1, 2), (1, 3), (2, 3))
EVEN_RINGS = {"even": 1, "four": 3}
ROUNDS = ((0, 3, 1), (0, 4, 2), (1, 5, 2), (3, 5, 4))


def shape_of(ties, block):
    """The paper of a block, or None if it is bad."""
    if len(block) == 1:
        return "tie", block[0]
    stars = ties_at(ties, block)
    if len(stars) == len(block):
        word = "even" if row_product(ties, block) == 1 else "odd"
        return word, ring_row(ties, stars, block[0])
    branches = branch_points(stars)
    between = strands(ties, stars)
    if len(branches) == 2:
        return two_ended(ties, between[branches[0], branches[1]])
    if len(between) == 6 and len(branches) == 4:
        return four_of(ties, branches, between)
    return chain_of(ties, branches, between)


def two_ended(ties, rows):
    """The chain of all ways between two points, or None."""
    evens = [row for row in rows if row_product(ties, row) == 1]
    odds = [row for row in rows if row_product(ties, row) == -1]
    if len(rows) == 3 and evens and odds:
        rest = (evens[1:] + odds[1:])[0]
        return "chain", (("bead", evens[0], odds[0]), *single_links(rest[::-1]))
    if len(evens) == 2 and len(odds) == 2:
        return "chain", (("bead", evens[0], odds[0]), ("bead", evens[1][::-1], odds[1][::-1]))
    return None


def single_links(row):
    """A row of ties as links."""
    return [("tie", number) for number in row]


def four_of(ties, corners, between):
    """The four of these corners, or None."""
    rows = [between[corners[one], corners[other]] for one, other in PAIRS]
    if any([len(found) > 1 for found in rows]):
        return None
    ways = tuple([found[0] for found in rows])
    if any([row_product(ties, ways[a] + ways[b] + ways[c]) == 1 for a, b, c in ROUNDS]):
        return None
    return "four", tuple(corners), ways


def chain_of(ties, branches, between):
    """The chain through three branch points or more, or None."""
    beside = {branch: [] for branch in branches}
    for (one, other), rows in between.items():
        beside[one].append(other)
        beside[other].append(one)
        if len(rows) > 2 or (len(rows) == 2 and row_product(ties, rows[0] + rows[1]) == 1):
            return None
    if any([len(beside[branch]) != 2 for branch in branches]):
        return None
    links = []
    before, point = beside[branches[0]][1], branches[0]
    while not links or point != branches[0]:
        first, second = beside[point]
        onward = second if first == before else first
        links.extend(links_between(between, point, onward))
        before, point = point, onward
    return "chain", tuple(links)


def links_between(between, one, other):
    """The bead, or the single ties, that lead from one branch point to the next one."""
    rows = between[one, other] if one < other else [row[::-1] for row in between[other, one]]
    if len(rows) == 2:
        return [("bead", rows[0], rows[1])]
    return single_links(rows[0])


def even_ring(ties, paper):
    """An even ring of what an "even", "chain" or "four" paper tells."""
    if paper[0] == "even":
        return paper[1]
    if paper[0] == "four":
        ways = paper[2]
        return ways[0] + ways[3] + ways[5] + ways[2][::-1]
    rows = [link[1] if link[0] == "bead" else (link[1],) for link in paper[1]]
    if row_product(ties, joined(rows)) == -1:
        at = [link[0] for link in paper[1]].index("bead")
        rows[at] = paper[1][at][2]
    return joined(rows)


def joined(rows):
    """The things of many rows in one row."""
    return tuple([number for row in rows for number in row])


def even_count(paper):
    """How many even rings a block has of which this is the paper."""
    if paper[0] == "chain":
        return 1 << (len([link for link in paper[1] if link[0] == "bead"]) - 1)
    return EVEN_RINGS.get(paper[0], 0)
