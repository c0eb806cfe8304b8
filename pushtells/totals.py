"""What totals alone tell: ties that are told, totals that can be, swings."""

from itertools import combinations

from pushtells.basis import basis_of, carried, level_rows, pulling_signs, swing_of
from pushtells.boxes import check_totals
from pushtells.checks import check_lot, check_tie, is_integer, is_lot, is_paper, is_sequence, is_sign_row, is_sized
from pushtells.checks import is_below, is_tuple
from pushtells.errors import InvalidRead, InvalidSize, Refused
from pushtells.fillings import sums_at
from pushtells.hang import closing_ties
from pushtells.rows import is_double, tie_ends, tie_sign
from pushtells.signs import tie_pull
from pushtells.webs import check_web, web_spreads

MOST_SWINGING_TIES = 12


def all_ties(web):
    """The numbers of all ties."""
    return list(range(len(web.ties)))


def unread_ties(web, lot):
    """The ties that are not in the lot, ascending."""
    read = set(lot)
    return [number for number in all_ties(web) if number not in read]


def closed_evens(web):
    """The signs of each closed even component."""
    check_web(web)
    return tuple(level_rows(web.points, web.ties, all_ties(web)))


def web_rank(web):
    """The points less the closed even components."""
    check_web(web)
    return web.points - len(closed_evens(web))


def free_number(web):
    """The ties less the rank."""
    check_web(web)
    return len(web.ties) - web_rank(web)


def told_by(web, lot):
    """All ties that are told if those of the lot are read."""
    check_web(web)
    check_lot(lot, len(web.ties))
    unread = unread_ties(web, lot)
    basis = basis_of(web.points, web.ties, unread)
    new = set(basis)
    free = {}
    for tie in unread:
        if tie not in new:
            swing = swing_of(web.points, web.ties, basis, tie)
            free.update({number: True for number, value in enumerate(swing) if value != 0})
    return tuple([number for number in all_ties(web) if number not in free])


def check_unread(web, lot, tie):
    check_web(web)
    check_lot(lot, len(web.ties))
    check_tie(web, tie)
    if tie in lot:
        raise Refused(-1)


def tie_paper(web, lot, tie):
    """Signs that tell a tie, the lot being read, or a swing that leaves it free."""
    check_unread(web, lot, tie)
    others = [number for number in unread_ties(web, lot) if number != tie]
    swing = swing_of(web.points, web.ties, basis_of(web.points, web.ties, others), tie)
    if swing is not None:
        return "free", swing
    return "told", pulling_signs(web.points, web.ties, others, tie)


def tie_holds(web, lot, tie, value):
    """Whether any value is such signs, or such a swing."""
    check_unread(web, lot, tie)
    if is_paper(value, "told", 2):
        return tells_tie(web, unread_ties(web, lot), tie, value[1])
    return is_paper(value, "free", 2) and is_swing(web, lot, value[1]) and value[1][tie] != 0


def tells_tie(web, unread, tie, signs):
    """Whether any value is signs that pull at a tie, and at no other unread one."""
    if not is_sign_row(signs, web.points) or tie_pull(web.ties[tie], signs) == 0:
        return False
    return all([number == tie or tie_pull(web.ties[number], signs) == 0 for number in unread])


def is_swing(web, lot, value):
    """Whether any value is a swing that is 0 at all ties of a lot."""
    if not are_integers(value, len(web.ties)) or not any([number != 0 for number in value]):
        return False
    return all([value[number] == 0 for number in lot]) and not any([total != 0 for total in sums_at(web, value)])


def are_integers(value, many):
    """Whether any value is a tuple of so many integers."""
    return is_tuple(value, many) and all([is_integer(number) for number in value])


def told_values(web, totals, read):
    """(tie, value doubled) of all ties that totals and read values tell."""
    check_web(web)
    check_totals(web, totals)
    check_read(web, read)
    known = {tie: 2 * value for tie, value in read}
    numbers, rest = solved(web, totals, known)
    if any([left != 0 for left in rest]):
        raise Refused("totals")
    return tuple([(tie, numbers[tie]) for tie in told_by(web, list(known))])


def check_read(web, read):
    if not is_sequence(read):
        raise InvalidRead(-1)
    for at, pair in enumerate(read):
        if not is_sized(pair, 2) or not is_below(pair[0], len(web.ties)) or not is_integer(pair[1]):
            raise InvalidRead(at)
        if at > 0 and read[at - 1][0] >= pair[0]:
            raise InvalidRead(at)


def solved(web, totals, known):
    """(numbers, rest): doubled numbers for all ties, by what is known of some, and what they leave of the totals."""
    numbers = [known.get(number, 0) for number in all_ties(web)]
    order = loose_ahead(web, [number for number in all_ties(web) if number not in known])
    needs = [2 * total - had for total, had in zip(totals, sums_at(web, numbers))]
    found, rest = carried(web.points, web.ties, basis_of(web.points, web.ties, order), needs)
    for number, value in found.items():
        numbers[number] = value
    return numbers, rest


def loose_ahead(web, chosen):
    """The chosen ties in another order: what hangs them together, then loose ones, then those that close rings.

    So halves come only where no tie of a component is loose.
    """
    closing = [chosen[at] for at in closing_ties(web.points, [web.ties[number] for number in chosen])]
    later = set(closing)
    hanging = [number for number in chosen if is_double(web.ties[number]) and number not in later]
    return hanging + [number for number in chosen if not is_double(web.ties[number])] + closing


def signed_total(signs, totals):
    """The sum of signs times totals."""
    return sum([sign * total for sign, total in zip(signs, totals)])


def totals_paper(web, totals):
    """Numbers that have the totals, with what shows that no whole ones do, or signs that show that none do."""
    check_web(web)
    check_totals(web, totals)
    for signs in closed_evens(web):
        if signed_total(signs, totals) != 0:
            return "signs", signs
    numbers, _ = solved(web, totals, {})
    halved = [number for number, value in enumerate(numbers) if value & 1 == 1]
    if not halved:
        return "whole", tuple([value // 2 for value in numbers])
    point = web.ties[halved[0]][0]
    lot = [tuple(sorted(ups)) for ups in web_spreads(web) if point in ups][0]
    return "halves", tuple(numbers), lot


def totals_hold(web, totals, value):
    """Whether any value is such a paper."""
    check_web(web)
    check_totals(web, totals)
    if is_paper(value, "whole", 2):
        return are_integers(value[1], len(web.ties)) and sums_at(web, value[1]) == list(totals)
    if is_paper(value, "halves", 3):
        if not are_integers(value[1], len(web.ties)) or sums_at(web, value[1]) != [2 * total for total in totals]:
            return False
        return is_odd_lot(web, totals, value[2])
    if not is_paper(value, "signs", 2) or not is_sign_row(value[1], web.points):
        return False
    return signed_total(value[1], totals) != 0 and not any([tie_pull(tie, value[1]) != 0 for tie in web.ties])


def is_odd_lot(web, totals, value):
    """Whether any value is a lot of points with an odd sum, in which ties have both ends or none."""
    if not is_lot(value, web.points) or sum([totals[point] for point in value]) & 1 == 0:
        return False
    return all([len([point for point, _ in tie_ends(tie) if point in value]) != 1 for tie in web.ties])


def fewest_swing(web):
    """Some swing of the fewest ties, the first number above 0, or None if nothing is free."""
    check_web(web)
    if len(web.ties) > MOST_SWINGING_TIES:
        raise InvalidSize("ties")
    ties = all_ties(web)
    for many in range(1, len(ties) + 1):
        for row in combinations(ties, many):
            basis = basis_of(web.points, web.ties, row)
            if len(basis) < many:
                swing = swing_of(web.points, web.ties, basis, [tie for tie in row if tie not in basis][0])
                return swing if swing[row[0]] > 0 else tuple([-number for number in swing])
    return None


def like_ties(web):
    """The lots of ties with the same points and the same signs, or all of them turned."""
    check_web(web)
    lots = {}
    for number, tie in enumerate(web.ties):
        key = (tie[0], tie[2], tie_sign(tie)) if is_double(tie) else (tie[0],)
        lots.setdefault(key, []).append(number)
    return tuple([tuple(lot) for lot in sorted(list(lots.values())) if len(lot) > 1])


def wrong_readings(web, totals, read):
    """None if the readings have the totals, else (tie, integer) of each that put right alone makes them have these."""
    check_web(web)
    check_totals(web, totals)
    if not is_sized(read, len(web.ties)):
        raise InvalidRead(-1)
    for at, value in enumerate(read):
        if not is_integer(value):
            raise InvalidRead(at)
    off = [total - had for total, had in zip(totals, sums_at(web, read))]
    if not any([left != 0 for left in off]):
        return None
    found = []
    for number, tie in enumerate(web.ties):
        change = tie[1] * off[tie[0]]
        right = {point: sign * change for point, sign in tie_ends(tie)}
        if off == [right.get(point, 0) for point in range(web.points)]:
            found.append((number, read[number] + change))
    return tuple(found)
