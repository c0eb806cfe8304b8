"""Rows of digits, lots and ring orders, in ascending order, and their numbers."""

from math import comb, factorial


def nth_digits(base, many, number):
    """So many digits, the greatest first."""
    digits = []
    for _ in range(many):
        number, digit = divmod(number, base)
        digits.append(digit)
    return digits[::-1]


def digits_number(base, digits):
    """Back."""
    number = 0
    for digit in digits:
        number = number * base + digit
    return number


def nth_pick(points, many, number):
    """The lot of so many of all points with this number."""
    lot = []
    for point in range(points):
        if len(lot) < many:
            # So many lots go on with this point.
            ahead = comb(points - point - 1, many - len(lot) - 1)
            if number < ahead:
                lot.append(point)
            else:
                number -= ahead
    return lot


def pick_number(points, lot):
    """Back."""
    number, left = 0, len(lot)
    for point in range(lot[-1] if lot else 0):
        if point in lot:
            left -= 1
        else:
            number += comb(points - point - 1, left - 1)
    return number


def orders_behind(second, rest):
    """How many orders of the rest end above the second point of a ring."""
    if not rest:
        return 1
    return len([point for point in rest if point > second]) * factorial(len(rest) - 1)


def nth_order(lot, number):
    """The ring with this number through a lot, from its least point on, to the lesser of its two neighbours."""
    ring, rest = [lot[0]], list(lot[1:])
    while rest:
        for point in list(rest):
            others = [other for other in rest if other != point]
            ahead = orders_behind(ring[1] if len(ring) > 1 else point, others)
            if number < ahead:
                ring.append(point)
                rest = others
                break
            number -= ahead
    return tuple(ring)


def order_number(ring):
    """Back."""
    number, rest = 0, sorted(ring[1:])
    for at in range(1, len(ring)):
        for point in [other for other in rest if other < ring[at]]:
            others = [other for other in rest if other != point]
            number += orders_behind(ring[1] if at > 1 else point, others)
        rest = [other for other in rest if other != ring[at]]
    return number
