"""What stands on a sheet at one moment, and what deeds make of it.

Points are rows (point, total), ties rows (number, tie, least, greatest), both ascending.
"""

from pushtells.checks import is_integer, is_sequence, is_sign
from pushtells.errors import InvalidDeed, Refused
from pushtells.rows import tie_ends
from pushtells.webs import ordered_tie

MOST_SIZE = 10 ** 18
MOST_SHEET_POINTS = 24
MOST_SHEET_TIES = 48
FORMS = {
    "point": ("amount",),
    "tie": ("tie", "amount", "amount"),
    "bounds": ("number", "amount", "amount"),
    "cut": ("number", "amount", "amount"),
    "total": ("number", "amount"),
    "shift": ("number", "amount"),
    "turn": ("number",),
    "take tie": ("number",),
    "take point": ("number",),
}


class Stand:
    """Never changed once it is made; the next numbers are those that were given to none."""

    def __init__(self, points, ties, next_point, next_tie):
        self.points = points
        self.ties = ties
        self.next_point = next_point
        self.next_tie = next_tie


def is_amount(value):
    """Whether any value is an integer that a sheet may have."""
    return is_integer(value) and -MOST_SIZE <= value <= MOST_SIZE


def is_number(value):
    """Whether any value is an integer from 0 on."""
    return is_integer(value) and value >= 0


def is_sheet_tie(value):
    """Whether any value is a tie of some points."""
    if not is_sequence(value) or len(value) not in (2, 4) or not is_number(value[0]) or not is_sign(value[1]):
        return False
    return len(value) == 2 or (is_number(value[2]) and is_sign(value[3]) and value[0] != value[2])


def is_part(form, value):
    """Whether any value is such a part of a deed."""
    if form == "tie":
        return is_sheet_tie(value)
    return is_amount(value) if form == "amount" else is_number(value)


def told_deed(value):
    """Any value that is a deed, in tuples."""
    if not is_sequence(value) or not value or not isinstance(value[0], str):
        raise InvalidDeed(-1)
    forms = FORMS.get(value[0])
    if forms is None or len(value) != len(forms) + 1:
        raise InvalidDeed(-1)
    if not all([is_part(form, part) for form, part in zip(forms, value[1:])]):
        raise InvalidDeed(-1)
    if forms[-2:] == ("amount", "amount") and value[2] > value[3]:
        raise InvalidDeed(-1)
    return tuple([tuple(part) if is_sequence(part) else part for part in value])


def tie_row(stand, number):
    """The row of a tie that has to be there."""
    for row in stand.ties:
        if row[0] == number:
            return row
    raise Refused("tie")


def point_total(stand, point):
    """The total of a point that has to be there."""
    for number, total in stand.points:
        if number == point:
            return total
    raise Refused("point")


def with_tie(stand, row):
    """The stand with another row for the tie of this number."""
    ties = tuple([row if told[0] == row[0] else told for told in stand.ties])
    return Stand(stand.points, ties, stand.next_point, stand.next_tie)


def with_totals(stand, totals):
    """The stand with these points' totals."""
    points = tuple([(point, totals.get(point, total)) for point, total in stand.points])
    return Stand(points, stand.ties, stand.next_point, stand.next_tie)


def come_point(stand, deed):
    if len(stand.points) >= MOST_SHEET_POINTS:
        raise Refused("points")
    points = stand.points + ((stand.next_point, deed[1]),)
    return Stand(points, stand.ties, stand.next_point + 1, stand.next_tie)


def come_tie(stand, deed):
    for point, _ in tie_ends(deed[1]):
        point_total(stand, point)
    if len(stand.ties) >= MOST_SHEET_TIES:
        raise Refused("many")
    ties = stand.ties + ((stand.next_tie, ordered_tie(deed[1]), deed[2], deed[3]),)
    return Stand(stand.points, ties, stand.next_point, stand.next_tie + 1)


def set_bounds(stand, deed):
    row = tie_row(stand, deed[1])
    return with_tie(stand, (row[0], row[1], deed[2], deed[3]))


def cut_tie(stand, deed):
    row = tie_row(stand, deed[1])
    least, greatest = max(row[2], deed[2]), min(row[3], deed[3])
    if least > greatest:
        raise Refused("cut")
    return with_tie(stand, (row[0], row[1], least, greatest))


def set_total(stand, deed):
    point_total(stand, deed[1])
    return with_totals(stand, {deed[1]: deed[2]})


def shift_tie(stand, deed):
    number, tie, least, greatest = tie_row(stand, deed[1])
    amount = deed[2]
    totals = {point: point_total(stand, point) + sign * amount for point, sign in tie_ends(tie)}
    if not all([is_amount(size) for size in [least + amount, greatest + amount] + list(totals.values())]):
        raise Refused("size")
    return with_totals(with_tie(stand, (number, tie, least + amount, greatest + amount)), totals)


def turned_at(tie, turned_point):
    """A tie with its sign at a point, if it stands there, turned about."""
    told = []
    for point, sign in tie_ends(tie):
        told.extend([point, -sign if point == turned_point else sign])
    return tuple(told)


def turn_point(stand, deed):
    totals = {deed[1]: -point_total(stand, deed[1])}
    ties = tuple([(number, turned_at(tie, deed[1]), least, most) for number, tie, least, most in stand.ties])
    return with_totals(Stand(stand.points, ties, stand.next_point, stand.next_tie), totals)


def take_tie(stand, deed):
    tie_row(stand, deed[1])
    ties = tuple([row for row in stand.ties if row[0] != deed[1]])
    return Stand(stand.points, ties, stand.next_point, stand.next_tie)


def take_point(stand, deed):
    point_total(stand, deed[1])
    if any([deed[1] in (row[1][0], row[1][-2]) for row in stand.ties]):
        raise Refused("ties")
    points = tuple([row for row in stand.points if row[0] != deed[1]])
    return Stand(points, stand.ties, stand.next_point, stand.next_tie)


DOERS = {
    "point": come_point,
    "tie": come_tie,
    "bounds": set_bounds,
    "cut": cut_tie,
    "total": set_total,
    "shift": shift_tie,
    "turn": turn_point,
    "take tie": take_tie,
    "take point": take_point,
}


def done(stand, deed):
    """The stand behind a deed."""
    doer = DOERS[deed[0]]
    return doer(stand, deed)


def number_that_came(stand, deed):
    """The number that a deed gives to what comes, or None."""
    return {"point": stand.next_point, "tie": stand.next_tie}.get(deed[0])
