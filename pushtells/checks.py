"""What arguments and papers are asked for, alike in all files."""

from pushtells.errors import InvalidLot, InvalidPoint, InvalidSide, InvalidSigns, InvalidTie


def is_integer(value):
    """Whether it is an int and no bool."""
    return isinstance(value, int) and not isinstance(value, bool)


def is_below(value, many):
    """Whether it is a number below many."""
    return is_integer(value) and 0 <= value < many


def is_sign(value):
    """Whether it is 1 or -1."""
    return is_integer(value) and value in (-1, 1)


def is_sequence(value):
    """Whether it is a list or a tuple."""
    return isinstance(value, (list, tuple))


def is_sized(value, many):
    """Whether it is a list or a tuple of so many things."""
    return is_sequence(value) and len(value) == many


def is_tuple(value, many):
    """Whether it is a tuple of so many things."""
    return isinstance(value, tuple) and len(value) == many


def is_paper(value, word, many):
    """Whether it is a tuple of so many things, the word ahead."""
    return is_tuple(value, many) and value[0] == word


def signs_fault(signs):
    """The first place that holds no -1, 0 or 1, or None."""
    for at, sign in enumerate(signs):
        if not is_integer(sign) or sign not in (-1, 0, 1):
            return at
    return None


def is_sign_row(value, points):
    """Whether it is a tuple with -1, 0 or 1 for each of so many points."""
    return is_tuple(value, points) and signs_fault(value) is None


def lot_fault(lot, many):
    """The first place that holds no number below many, or one that was there; -1: no sequence; else None."""
    if not is_sequence(lot):
        return -1
    seen = set()
    for at, value in enumerate(lot):
        if not is_below(value, many) or value in seen:
            return at
        seen.add(value)
    return None


def is_lot(value, many):
    """Whether it is an ascending tuple of unlike numbers below many."""
    return isinstance(value, tuple) and lot_fault(value, many) is None and list(value) == sorted(value)


def check_lot(lot, many):
    fault = lot_fault(lot, many)
    if fault is not None:
        raise InvalidLot(fault)


def check_point(web, point):
    if not is_below(point, web.points):
        raise InvalidPoint(-1)


def check_tie(web, tie):
    if not is_below(tie, len(web.ties)):
        raise InvalidTie(-1)


def check_side(side):
    if not is_sign(side):
        raise InvalidSide(-1)


def check_signs(web, signs):
    if not is_sized(signs, web.points):
        raise InvalidSigns(-1)
    fault = signs_fault(signs)
    if fault is not None:
        raise InvalidSigns(fault)
