"""Tables with holes: cells of which just bounds are known."""

from pushtells.checks import is_below, is_integer, is_lot, is_sequence, is_sized
from pushtells.errors import InvalidHoles, InvalidLot, InvalidPrices, InvalidSize
from pushtells.hang import head_of, neighbours, spreads
from pushtells.webs import MOST_POINTS, MOST_TIES, Web

MOST_PRICE = 10 ** 9


def check_table(rows, columns, holes):
    if not is_integer(rows) or not 1 <= rows < MOST_POINTS:
        raise InvalidSize("rows")
    if not is_integer(columns) or not 1 <= columns <= MOST_POINTS - rows:
        raise InvalidSize("columns")
    if not is_sequence(holes) or len(holes) > MOST_TIES:
        raise InvalidHoles(-1)
    seen = set()
    for at, hole in enumerate(holes):
        if not is_hole(rows, columns, hole) or (hole[0], hole[1]) in seen:
            raise InvalidHoles(at)
        seen.add((hole[0], hole[1]))


def is_hole(rows, columns, value):
    """Whether any value is a pair (row, column)."""
    return is_sized(value, 2) and is_below(value[0], rows) and is_below(value[1], columns)


def hole_ties(rows, holes):
    """The holes as ties of the points of their lines: rows, then columns."""
    return [(hole[0], 1, rows + hole[1], 1) for hole in holes]


def line_point(rows, columns, value):
    """The point of any value that is a line of the table, else None."""
    if not is_sized(value, 2):
        return None
    if value[0] == "row" and is_below(value[1], rows):
        return value[1]
    return rows + value[1] if value[0] == "column" and is_below(value[1], columns) else None


def table_web(rows, columns, holes, loose):
    """The web of a table: lines as points, holes as ties, a loose tie for each line whose total is not told."""
    check_table(rows, columns, holes)
    if not is_sequence(loose) or len(holes) + len(loose) > MOST_TIES:
        raise InvalidLot(-1)
    points = [line_point(rows, columns, line) for line in loose]
    seen = set()
    for at, point in enumerate(points):
        if point is None or point in seen:
            raise InvalidLot(at)
        seen.add(point)
    return Web(rows + columns, hole_ties(rows, holes) + [(point, -1) for point in points])


def hole_groups(rows, columns, holes):
    """(rows, columns, holes) of all that hangs together by holes."""
    check_table(rows, columns, holes)
    ties = hole_ties(rows, holes)
    found = []
    for ups in spreads(neighbours(rows + columns, ties, list(range(len(ties)))), list(range(rows))):
        inside = sorted(ups)
        told = tuple([number for number, tie in enumerate(ties) if tie[0] in ups])
        if told:
            lines = tuple([point for point in inside if point < rows])
            found.append((lines, tuple([point - rows for point in inside if point >= rows]), told))
    return tuple(found)


def too_many(rows, columns, holes):
    """How many holes of all groups there are beyond their lines."""
    groups = hole_groups(rows, columns, holes)
    return sum([max(0, len(told) - len(lines) - len(others)) for lines, others, told in groups])


def is_trusted(rows, columns, holes):
    """Whether narrowing line by line sees of all bounds and totals whether something fits."""
    return too_many(rows, columns, holes) == 0


def fewest_read(rows, columns, holes):
    """How many holes must be read at least such that the table of the others is trusted."""
    return too_many(rows, columns, holes)


def check_prices(holes, prices):
    if not is_sized(prices, len(holes)):
        raise InvalidPrices(-1)
    for at, price in enumerate(prices):
        if not is_integer(price) or not 1 <= price <= MOST_PRICE:
            raise InvalidPrices(at)


def read_paper(rows, columns, holes, prices):
    """Some cheapest lot of holes to be read."""
    check_table(rows, columns, holes)
    check_prices(holes, prices)
    heads, free = list(range(rows + columns)), [1] * (rows + columns)
    read = []
    dearest = sorted([(-price, number) for number, price in enumerate(prices)])
    for _, number in dearest:
        one, other = head_of(heads, holes[number][0]), head_of(heads, rows + holes[number][1])
        # Each line of a group may bring a hole.
        room = free[one] if one == other else free[one] + free[other]
        if room == 0:
            read.append(number)
        else:
            heads[other] = one
            free[one] = room - 1
    return tuple(sorted(read))


def read_holds(rows, columns, holes, prices, value):
    """Whether any value is such a lot."""
    cheapest = read_paper(rows, columns, holes, prices)
    if not is_lot(value, len(holes)) or sum([prices[at] for at in value]) != sum([prices[at] for at in cheapest]):
        return False
    read = {number: True for number in value}
    return is_trusted(rows, columns, [hole for number, hole in enumerate(holes) if number not in read])
