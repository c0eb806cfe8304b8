"""Who holds an end, why nothing is left, and how much room a bound has."""

from pushtells.boxes import Box
from pushtells.checks import check_side, is_sequence
from pushtells.errors import InvalidMark, InvalidSheet, Refused
from pushtells.marks import SIDES, all_marks, fewest_marks, uppers_by
from pushtells.sheet import Sheet
from pushtells.stands import is_number
from pushtells.stretches import lot_with, part_at, part_with
from pushtells.tighten import tightened


def check_sheet(sheet):
    if not isinstance(sheet, Sheet):
        raise InvalidSheet(-1)


def check_held(sheet, tie, side):
    """The part with a tie of which something is left."""
    if not is_number(tie) or tie not in [row[0] for row in sheet.ties]:
        raise Refused("tie")
    check_side(side)
    part = part_with(sheet.points, sheet.ties, tie)
    if tightened(part[0], part[1]) is None:
        raise Refused("nothing")
    return part


def check_empty(sheet, point):
    """(part, lot) of a lot of which nothing is left."""
    if not is_number(point) or point not in [row[0] for row in sheet.points]:
        raise Refused("point")
    lot = lot_with(sheet.points, sheet.ties, point)
    part = part_at(sheet.points, sheet.ties, lot)
    if tightened(part[0], part[1]) is not None:
        raise Refused("left")
    return part, lot


def holds_end(told, marks):
    """Whether marks alone lead to the end of a side: told is (web, box, side, upper number)."""
    web, box, side, upper = told
    return uppers_by(web, box, marks).get(side) == upper


def leaves_nothing(told, marks):
    """Whether marks alone leave nothing: told is (web, box)."""
    web, box = told
    return uppers_by(web, box, marks) is None


def held_side(part, tie, side):
    """What `holds_end` is told of a side of a tie."""
    web, box, numbers = part
    place = numbers.index(tie)
    least, greatest = tightened(web, box).bounds[place]
    return web, box, (place, side), greatest if side == 1 else -least


def told_marks(marks, numbers, lot):
    """Marks by the numbers of the sheet."""
    return tuple([(word, lot[at] if word == "total" else numbers[at]) for word, at in marks])


def lot_of(sheet, tie):
    """The lot with a tie that is there."""
    point = [row[1][0] for row in sheet.ties if row[0] == tie][0]
    return lot_with(sheet.points, sheet.ties, point)


def held_by(sheet, tie, side):
    """The marks by which alone an end of a tie is as it is."""
    check_sheet(sheet)
    part = check_held(sheet, tie, side)
    marks = fewest_marks(all_marks(part[0]), holds_end, held_side(part, tie, side))
    return told_marks(marks, part[2], lot_of(sheet, tie))


def why_nothing(sheet, point):
    """The marks by which alone nothing is left of the lot with a point."""
    check_sheet(sheet)
    part, lot = check_empty(sheet, point)
    marks = fewest_marks(all_marks(part[0]), leaves_nothing, (part[0], part[1]))
    return told_marks(marks, part[2], lot)


def own_marks(value, numbers, lot):
    """Any value that is an ascending tuple of marks of a lot, by the numbers of its part; else None."""
    if not isinstance(value, tuple):
        return None
    found = []
    for mark in value:
        if not isinstance(mark, tuple) or len(mark) != 2 or not is_number(mark[1]):
            return None
        homes = lot if mark[0] == "total" else numbers
        if mark[0] not in ("least", "greatest", "total") or mark[1] not in homes:
            return None
        found.append((mark[0], homes.index(mark[1])))
    return found if all([one < other for one, other in zip(found, found[1:])]) else None


def are_least(marks, holds, told):
    """Whether marks hold what is told, and without any one of them do not."""
    if marks is None or not holds(told, marks):
        return False
    return not any([holds(told, [other for other in marks if other != mark]) for mark in marks])


def held_holds(sheet, tie, side, value):
    """Whether any value is marks by which alone an end is as it is, none of which can be left out."""
    check_sheet(sheet)
    part = check_held(sheet, tie, side)
    return are_least(own_marks(value, part[2], lot_of(sheet, tie)), holds_end, held_side(part, tie, side))


def why_holds(sheet, point, value):
    """Whether any value is marks by which alone nothing is left, none of which can be left out."""
    check_sheet(sheet)
    part, lot = check_empty(sheet, point)
    return are_least(own_marks(value, part[2], lot), leaves_nothing, (part[0], part[1]))


def check_mark(sheet, mark):
    """The row of the tie that is there and has this bound."""
    if not is_sequence(mark) or len(mark) != 2 or mark[0] not in ("least", "greatest") or not is_number(mark[1]):
        raise InvalidMark(-1)
    rows = [row for row in sheet.ties if row[0] == mark[1]]
    if not rows:
        raise InvalidMark(-1)
    return rows[0]


def room_of(sheet, mark, tie, side):
    """How far a bound may be narrowed such that an end of a tie stays."""
    check_sheet(sheet)
    row = check_mark(sheet, mark)
    part = check_held(sheet, tie, side)
    width = row[3] - row[2]
    if row[0] not in part[2]:
        return width
    told = held_side(part, tie, side)
    place = part[2].index(row[0])
    # So much stays; so much more does not, or is too much.
    stays, moves = 0, width + 1
    while moves - stays > 1:
        middle = (stays + moves) // 2
        if stays_narrowed(told, place, SIDES[mark[0]], middle):
            stays = middle
        else:
            moves = middle
    return stays


def stays_narrowed(told, place, bound, by):
    """Whether an end stays where a bound of a tie is narrowed."""
    web, box, side, upper = told
    bounds = list(box.bounds)
    least, greatest = bounds[place]
    bounds[place] = (least, greatest - by) if bound == 1 else (least + by, greatest)
    end = tightened(web, Box(web, bounds, box.totals))
    if end is None:
        return False
    pair = end.bounds[side[0]]
    return (pair[1] if side[1] == 1 else -pair[0]) == upper
