"""The least and the greatest number that a tie has in fillings, told doubled."""

from pushtells.boxes import check_web_box
from pushtells.checks import check_side, check_tie, is_integer, is_sign_row, is_tuple
from pushtells.copies import copy_numbers, twice, worst_row
from pushtells.errors import InvalidSize
from pushtells.fillings import doubled_filling, filling_holds, put_together
from pushtells.signs import lack_of, tie_pull

MOST_TIES_AT_ONCE = 40


def exact_ends(web, box, tie):
    """The doubled pair of ends of a tie, or None if nothing fills the box."""
    check_web_box(web, box)
    check_tie(web, tie)
    return None if doubled_filling(web, box) is None else both_ends(web, box, tie)


def both_ends(web, box, tie):
    """The doubled pair of ends of a tie of a box that something fills."""
    return stopped(web, box, tie, -1)[0], stopped(web, box, tie, 1)[0]


def all_ends(web, box):
    """The pairs of ends of all ties, or None if nothing fills the box."""
    check_web_box(web, box)
    if len(web.ties) > MOST_TIES_AT_ONCE:
        raise InvalidSize("ties")
    if doubled_filling(web, box) is None:
        return None
    return tuple([both_ends(web, box, tie) for tie in range(len(web.ties))])


def bound_of(box, tie, side):
    """The tie's greatest bound, of side -1 its least one."""
    return box.bounds[tie][1] if side == 1 else box.bounds[tie][0]


def stopped(web, box, tie, side):
    """(end, signs) of a box that something fills: the end doubled, signs that stop the tie there or None."""
    end = 2 * bound_of(box, tie, side)
    signs = None
    bounds = [(2 * least, 2 * most) for least, most in box.bounds]
    totals = [2 * total for total in box.totals]
    while True:
        bounds[tie] = (end, end)
        told = worst_row(web.points, web.ties, bounds, totals)
        lack = lack_of(web.ties, bounds, totals, told)
        if lack <= 0:
            return end, signs
        # The tie goes as far as these signs want it to; farther they pull it less.
        signs = told
        end += lack // tie_pull(web.ties[tie], signs)


def stop_paper(web, box, tie, side):
    """(end, filling, signs): a filling that has the end, and signs that stop the tie there unless its bound does."""
    check_web_box(web, box)
    check_tie(web, tie)
    check_side(side)
    if doubled_filling(web, box) is None:
        return None
    end, signs = stopped(web, box, tie, side)
    return end, filling_with(web, box, tie, end), signs


def filling_with(web, box, tie, end):
    """A filling with this doubled number, one of its ends, at a tie."""
    bounds = twice(box.bounds)
    # One copy has the half rounded up, the other one the rest.
    bounds[2 * tie] = (end - end // 2, end - end // 2)
    bounds[2 * tie + 1] = (end // 2, end // 2)
    return put_together(copy_numbers(web.points, web.ties, bounds, box.totals))


def stop_holds(web, box, tie, side, value):
    """Whether any value is an end, a filling that has it, and signs that stop the tie there or None."""
    check_web_box(web, box)
    check_tie(web, tie)
    check_side(side)
    if not is_tuple(value, 3) or not is_integer(value[0]) or not filling_holds(web, box, value[1]):
        return False
    end, filling, signs = value
    if filling[tie] != end:
        return False
    if end == 2 * bound_of(box, tie, side):
        return signs is None
    return is_sign_row(signs, web.points) and do_stop(web, box, tie, side, end, signs)


def do_stop(web, box, tie, side, end, signs):
    """Whether signs, or all of them turned about, stop a tie at this doubled end."""
    size = tie_pull(web.ties[tie], signs)
    if size == 0:
        return False
    # So turned they pull the tie as far as its side goes, and all others must bring what is left.
    against = signs if (size < 0) == (side == 1) else tuple([-sign for sign in signs])
    bounds = list(box.bounds)
    bounds[tie] = (0, 0)
    return tie_pull(web.ties[tie], against) * end == 2 * lack_of(web.ties, bounds, box.totals, against)
