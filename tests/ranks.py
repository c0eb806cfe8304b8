"""Ranks, swings and signs of small webs by reckoning with fractions, for tests."""

import itertools
from fractions import Fraction

from tests.helpers import all_signs, are_signs, integers, pull_of, totals_of


def columns(web):
    """For each tie its signs at all points."""
    return [tuple(totals_of(web, tuple(int(at == tie) for at in range(len(web.ties))))) for tie in range(len(web.ties))]


def rank(rows):
    """How many of these rows of numbers are independent."""
    rows = [[Fraction(x) for x in row] for row in rows]
    found = 0
    for place in range(len(rows[0]) if rows else 0):
        head = next((row for row in rows[found:] if row[place]), None)
        if head is None:
            continue
        rows.remove(head)
        rows.insert(found, head)
        for at in range(found + 1, len(rows)):
            factor = rows[at][place] / head[place]
            rows[at] = [x - factor * y for x, y in zip(rows[at], head)]
        found += 1
    return found


def determinant(table):
    """The determinant, by fractions."""
    rows = [[Fraction(x) for x in row] for row in table]
    result = Fraction(1)
    for place in range(len(rows)):
        head = next((at for at in range(place, len(rows)) if rows[at][place]), None)
        if head is None:
            return 0
        if head != place:
            rows[place], rows[head] = rows[head], rows[place]
            result = -result
        result *= rows[place][place]
        for at in range(place + 1, len(rows)):
            factor = rows[at][place] / rows[place][place]
            rows[at] = [x - factor * y for x, y in zip(rows[at], rows[place])]
    return result


def rank_of(web, chosen):
    table = columns(web)
    return rank([table[tie] for tie in chosen])


def is_enough(web, lot):
    """Whether no swing is 0 at all ties of the lot."""
    rest = [tie for tie in range(len(web.ties)) if tie not in lot]
    return rank_of(web, rest) == len(rest)


def tells(web, lot, tie):
    """Whether each swing that is 0 at the lot is 0 at the tie."""
    rest = [other for other in range(len(web.ties)) if other not in lot and other != tie]
    return tie in lot or rank_of(web, rest + [tie]) > rank_of(web, rest)


def fewest_lots(web):
    """All lots as few as can be and enough, ascending."""
    many = len(web.ties) - rank_of(web, range(len(web.ties)))
    return [lot for lot in itertools.combinations(range(len(web.ties)), many) if is_enough(web, lot)]


def small_swings(web, size=2):
    """All swings of integers up to a size."""
    rows = itertools.product(range(-size, size + 1), repeat=len(web.ties))
    return [row for row in rows if any(row) and not any(totals_of(web, row))]


def is_swing(web, value, lot=()):
    """Whether any value is a swing that is 0 at these ties."""
    if not integers(value, len(web.ties)) or not any(value) or any(totals_of(web, value)):
        return False
    return all(value[tie] == 0 for tie in lot)


def pulls(web, signs):
    return [pull_of(tie, signs) for tie in web.ties]


def tells_by(web, value, tie, unread):
    """Whether any value is signs that pull at a tie and at no other unread one."""
    if not are_signs(web, value) or pulls(web, value)[tie] == 0:
        return False
    return not any(pulls(web, value)[other] for other in unread if other != tie)


def telling_signs(web, tie, unread):
    return [signs for signs in all_signs(web) if tells_by(web, signs, tie, unread)]


def are_rows(web, value, told, unread):
    """Whether any value is (tie, signs) for each told tie in order."""
    if type(value) is not tuple or len(value) != len(told):
        return False
    for row, tie in zip(value, told):
        if type(row) is not tuple or len(row) != 2 or type(row[0]) is not int or row[0] != tie:
            return False
        if not tells_by(web, row[1], tie, unread):
            return False
    return True


def are_swings(web, value, lot):
    """Whether any value is a swing for each tie of the lot, 0 at all others of it."""
    if type(value) is not tuple or len(value) != len(lot):
        return False
    return all(is_swing(web, swing, [x for x in lot if x != tie]) and swing[tie] != 0 for tie, swing in zip(lot, value))


def is_lot(web, value, many=None):
    """Whether any value is an ascending tuple of unlike ties."""
    if type(value) is not tuple or any(type(x) is not int or not 0 <= x < len(web.ties) for x in value):
        return False
    return list(value) == sorted(set(value)) and many in (None, len(value))
