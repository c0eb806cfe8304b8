"""Sums of powers u ** 0, u ** 1, .. with fractions before them.

A series is (numbers, under): the numbers before the powers, all to be divided by `under`.
"""

from math import gcd

POWERS = 13


def lowered(numbers, under):
    """The series in lowest terms."""
    common = under
    for number in numbers:
        common = gcd(common, number)
    return [number // common for number in numbers], under // common


def alone(power, number=1):
    """A number before one power, 0 before all others."""
    return [number if at == power else 0 for at in range(POWERS)], 1


def plus(one, other):
    """The sum of two series."""
    numbers = [first * other[1] + second * one[1] for first, second in zip(one[0], other[0])]
    return lowered(numbers, one[1] * other[1])


def times(one, other):
    """The product of two series."""
    numbers = []
    for power in range(POWERS):
        numbers.append(sum([one[0][at] * other[0][power - at] for at in range(power + 1)]))
    return lowered(numbers, one[1] * other[1])


def scaled(told, number, under=1):
    """A series times a fraction."""
    return lowered([each * number for each in told[0]], told[1] * under)


def sum_of(rows):
    """The sum of many series."""
    total = alone(0, 0)
    for told in rows:
        total = plus(total, told)
    return total


def power_of(told, many):
    """A series times itself, so many times."""
    product = alone(0)
    for _ in range(many):
        product = times(product, told)
    return product


def exponential(told):
    """The sum of all powers of a series without a number of its own, each by its factorial."""
    term, rows = alone(0), [alone(0)]
    for many in range(1, POWERS):
        term = scaled(times(term, told), 1, many)
        rows.append(term)
    return sum_of(rows)


def slope(told):
    """What the series becomes where each power is taken down by one, and times itself."""
    return [power * told[0][power] for power in range(1, POWERS)] + [0], told[1]
