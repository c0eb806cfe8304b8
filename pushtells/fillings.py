"""Fillings, told doubled, or signs that show that there are none."""

from pushtells.boxes import check_web_box
from pushtells.checks import is_integer, is_paper, is_tuple
from pushtells.copies import copy_numbers, twice, worst_row
from pushtells.hang import cancelling, neighbours, sign_row, spreads
from pushtells.rows import tie_ends
from pushtells.signs import do_show, lack_of


def filling_holds(web, box, value):
    """Whether any value is a filling, told doubled."""
    check_web_box(web, box)
    return fits(web, [(2 * least, 2 * most) for least, most in box.bounds], [2 * total for total in box.totals], value)


def fits(web, bounds, totals, value):
    """Whether any value is a tuple of integers within these bounds that come to these totals."""
    if not is_tuple(value, len(web.ties)) or not all([is_integer(number) for number in value]):
        return False
    if any([not least <= number <= most for number, (least, most) in zip(value, bounds)]):
        return False
    return sums_at(web, value) == list(totals)


def sums_at(web, numbers):
    """The signed sum of numbers on ties at each point."""
    sums = [0] * web.points
    for told, number in zip(web.ties, numbers):
        for point, sign in tie_ends(told):
            sums[point] += sign * number
    return sums


def fill_paper(web, box):
    """Some filling, or signs that show that there is none."""
    check_web_box(web, box)
    filling = doubled_filling(web, box)
    if filling is None:
        return "signs", showing(web, box.bounds, box.totals)
    return "filling", filling


def doubled_filling(web, box):
    """Some filling, told doubled, or None."""
    return put_together(copy_numbers(web.points, web.ties, twice(box.bounds), box.totals))


def put_together(numbers):
    """The sums of two numbers each, or None for None."""
    return None if numbers is None else tuple([one + other for one, other in zip(numbers[::2], numbers[1::2])])


def showing(web, bounds, totals):
    """One hanging part of signs that show a box which nothing fills."""
    signs = worst_row(web.points, web.ties, bounds, totals)
    beside = neighbours(web.points, web.ties, cancelling(web.ties, signs))
    for ups in spreads(beside, [point for point in range(web.points) if signs[point] != 0]):
        part = sign_row(web.points, {point: signs[point] for point in ups})
        if lack_of(web.ties, bounds, totals, part) > 0:
            return part
    return None


def fill_holds(web, box, value):
    """Whether any value is some filling, or signs that show the box."""
    check_web_box(web, box)
    if is_paper(value, "filling", 2):
        return filling_holds(web, box, value[1])
    return is_paper(value, "signs", 2) and do_show(web, box.bounds, box.totals, value[1])
