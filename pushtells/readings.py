"""What must be read: enough, fewest, cheapest readings, and those for a lot of ties."""

from pushtells.basis import basis_of, level_rows, pulling_signs, swing_of
from pushtells.checks import check_lot, is_below, is_integer, is_lot, is_sized, is_paper, is_tuple
from pushtells.errors import InvalidPrices, InvalidSize, InvalidTie, Refused
from pushtells.rows import is_double
from pushtells.signs import tie_pull
from pushtells.totals import all_ties, closed_evens, free_number, is_swing, tells_tie, unread_ties
from pushtells.webs import check_web

MOST_WEIGHED_POINTS = 40


def enough_paper(web, lot):
    """Signs that tell each tie that is not in the lot, or a swing that has none of the lot."""
    check_web(web)
    check_lot(lot, len(web.ties))
    unread = unread_ties(web, lot)
    basis = basis_of(web.points, web.ties, unread)
    new = set(basis)
    for tie in unread:
        if tie not in new:
            return "swing", swing_of(web.points, web.ties, basis, tie)
    return "enough", telling_rows(web, unread, unread)


def telling_rows(web, told, unread):
    """(tie, signs) for each tie: signs that pull at it and at no other unread one."""
    rows = []
    for tie in told:
        others = [number for number in unread if number != tie]
        rows.append((tie, pulling_signs(web.points, web.ties, others, tie)))
    return tuple(rows)


def enough_holds(web, lot, value):
    """Whether any value is such a paper."""
    check_web(web)
    check_lot(lot, len(web.ties))
    if is_paper(value, "swing", 2):
        return is_swing(web, lot, value[1])
    unread = unread_ties(web, lot)
    return is_paper(value, "enough", 2) and are_telling_rows(web, unread, unread, value[1])


def are_telling_rows(web, told, unread, value):
    """Whether any value is (tie, signs) for each tie, in order: signs that pull at no other unread one."""
    if not is_tuple(value, len(told)) or not all([is_tuple(row, 2) for row in value]):
        return False
    named = [is_integer(row[0]) and row[0] == tie for row, tie in zip(value, told)]
    return all(named) and all([tells_tie(web, unread, row[0], row[1]) for row in value])


def readings_paper(web):
    """(lot, rows, swings): a lot of fewest readings, what tells all other ties, and why none can be left out."""
    check_web(web)
    basis = basis_of(web.points, web.ties, all_ties(web))
    lot = unread_ties(web, basis)
    swings = [swing_of(web.points, web.ties, basis, tie) for tie in lot]
    return tuple(lot), telling_rows(web, basis, basis), tuple(swings)


def readings_hold(web, value):
    """Whether any value is such a paper."""
    check_web(web)
    if not is_tuple(value, 3) or not is_lot(value[0], len(web.ties)):
        return False
    unread = unread_ties(web, value[0])
    return are_telling_rows(web, unread, unread, value[1]) and are_lone_swings(web, value[0], value[2])


def are_lone_swings(web, lot, value):
    """Whether any value is a swing for each tie of a lot, in order, that has none of the others."""
    if not is_tuple(value, len(lot)):
        return False
    for tie, swing in zip(lot, value):
        if not is_swing(web, [number for number in lot if number != tie], swing) or swing[tie] == 0:
            return False
    return True


def is_fewest(web, lot):
    """Whether a lot is enough and as few as can be."""
    unread = unread_ties(web, lot)
    basis = basis_of(web.points, web.ties, unread)
    return len(basis) == len(unread) and len(lot) == free_number(web)


def exchanged_ties(web, one, other, tie):
    """All ties of the other lot that, put in the place of a tie of the one, leave it enough."""
    check_web(web)
    check_lot(one, len(web.ties))
    if not is_fewest(web, one):
        raise Refused("one")
    check_lot(other, len(web.ties))
    if not is_fewest(web, other):
        raise Refused("other")
    if not is_below(tie, len(web.ties)) or tie not in one or tie in other:
        raise InvalidTie(-1)
    kept = [number for number in one if number != tie]
    return tuple([number for number in sorted(other) if is_fewest(web, kept + [number])])


def check_prices(web, prices):
    if not is_sized(prices, len(web.ties)):
        raise InvalidPrices(-1)
    for at, price in enumerate(prices):
        if not is_integer(price) or price < 0:
            raise InvalidPrices(at)


def dearest_basis(web, prices):
    """The ties that cheapest readings leave unread, ascending; of alike prices the last ones."""
    order = sorted([(price, number) for number, price in enumerate(prices)])[::-1]
    return sorted(basis_of(web.points, web.ties, [number for _, number in order]))


def cheapest_readings(web, prices):
    """The least of the cheapest lots as few as can be and enough."""
    check_web(web)
    check_prices(web, prices)
    return tuple(unread_ties(web, dearest_basis(web, prices)))


def cheapest_paper(web, prices):
    """(sum, lot, rows): a cheapest lot, and what tells all other ties by none that is dearer."""
    check_web(web)
    check_prices(web, prices)
    basis = dearest_basis(web, prices)
    lot = unread_ties(web, basis)
    return sum([prices[tie] for tie in lot]), tuple(lot), telling_rows(web, basis, basis)


def cheapest_holds(web, prices, value):
    """Whether any value is such a paper."""
    check_web(web)
    check_prices(web, prices)
    if not is_tuple(value, 3) or not is_integer(value[0]) or not is_lot(value[1], len(web.ties)):
        return False
    lot, rows = value[1], value[2]
    unread = unread_ties(web, lot)
    if len(lot) != free_number(web) or not are_telling_rows(web, unread, unread, rows):
        return False
    pulled = [(tie, number) for tie, signs in rows for number in lot if tie_pull(web.ties[number], signs) != 0]
    if any([prices[number] > prices[tie] for tie, number in pulled]):
        return False
    return value[0] == sum([prices[tie] for tie in lot])


def lot_number(web, lot):
    """The fewest readings with which all ties of the lot are told."""
    check_web(web)
    check_lot(lot, len(web.ties))
    without = level_rows(web.points, web.ties, unread_ties(web, lot))
    return len(lot) - len(without) + len(closed_evens(web))


def lot_paper(web, lot):
    """(read, rows, swings): fewest ties of the lot that tell it, how they do, and why none can be left out."""
    check_web(web)
    check_lot(lot, len(web.ties))
    outside = unread_ties(web, lot)
    basis = basis_of(web.points, web.ties, outside + sorted(lot))
    new = set(basis)
    read = [tie for tie in sorted(lot) if tie not in new]
    rows = telling_rows(web, [tie for tie in sorted(lot) if tie in new], unread_ties(web, read))
    return tuple(read), rows, tuple([swing_of(web.points, web.ties, basis, tie) for tie in read])


def lot_holds(web, lot, value):
    """Whether any value is such a paper."""
    check_web(web)
    check_lot(lot, len(web.ties))
    if not is_tuple(value, 3) or not is_lot(value[0], len(web.ties)):
        return False
    read = value[0]
    if any([tie not in lot for tie in read]):
        return False
    told = [tie for tie in sorted(lot) if tie not in read]
    return are_telling_rows(web, told, unread_ties(web, read), value[1]) and are_lone_swings(web, read, value[2])


def weighed_count(web):
    """The sum, over all lots as few as can be and enough, of 4 to the power of their unread ties' odd rings."""
    check_web(web)
    if web.points > MOST_WEIGHED_POINTS:
        raise InvalidSize("points")
    table = point_table(web)
    firsts = {signs.index(1): True for signs in closed_evens(web)}
    kept = [point for point in range(web.points) if point not in firsts]
    return determinant([[table[point][other] for other in kept] for point in kept])


def point_table(web):
    """For each two points the sum, over ties that have both, of both signs multiplied; how many ties each one has."""
    table = [[0] * web.points for _ in range(web.points)]
    for tie in web.ties:
        table[tie[0]][tie[0]] += 1
        if is_double(tie):
            table[tie[2]][tie[2]] += 1
            table[tie[0]][tie[2]] += tie[1] * tie[3]
            table[tie[2]][tie[0]] += tie[1] * tie[3]
    return table


def determinant(table):
    """The determinant of a symmetric table in whole numbers none of whose leading parts has a determinant of 0."""
    rows = table
    before, result = 1, 1
    while rows:
        first = rows[0]
        result = first[0]
        # Each division leaves nothing over: all numbers are determinants of parts.
        rows = [[(row[at] * result - row[0] * first[at]) // before for at in range(1, len(row))] for row in rows[1:]]
        before = result
    return result
