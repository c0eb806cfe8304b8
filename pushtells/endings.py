"""Papers of ends: weighed looks that tell a bound, or that nothing is left."""

from pushtells.boxes import Box, are_bounds, check_web_box, is_within
from pushtells.checks import check_side, check_tie, is_below, is_integer, is_paper, is_sign, is_tuple
from pushtells.errors import Refused
from pushtells.ledger import looks_back, turning_row, used_sides
from pushtells.looks import bare_point, crossed_tie, point_stars, run_rounds, upper_number
from pushtells.rows import sign_at, tie_ends
from pushtells.tighten import is_still


def bound_paper(web, box, tie, side):
    """A bound of the end, and the weighed looks that tell it."""
    check_web_box(web, box)
    check_tie(web, tie)
    check_side(side)
    word, log, bounds = run_rounds(web, box)
    if word != "still":
        raise Refused(-1)
    number = side * upper_number(bounds[tie], side)
    return number, looks_back(web.ties, point_stars(web), log, {(tie, side): 1}, {})


def bound_holds(web, box, tie, side, value):
    """Whether any value is a number and weighed looks that tell it."""
    check_web_box(web, box)
    check_tie(web, tie)
    check_side(side)
    if not is_tuple(value, 2) or not is_integer(value[0]):
        return False
    return tells(web, box, tie, side, value[0], value[1])


def tells(web, box, tie, side, number, looks):
    """Whether any value is weighed looks by which this side of a tie comes to the number."""
    return are_weighed(web, looks) and looks_sum(web, box, looks, {(tie, side): 1}) == side * number


def are_weighed(web, looks):
    """Whether any value is weighed looks, ascending, no two alike."""
    if not isinstance(looks, tuple) or not all([is_weighed(web, look) for look in looks]):
        return False
    keys = [look[:3] for look in looks]
    return keys == sorted(keys) and len(set(keys)) == len(keys)


def is_weighed(web, look):
    """Whether any value is (point, direction, tie, weight), the tie standing at the point."""
    if not is_tuple(look, 4) or not is_below(look[0], web.points) or not is_sign(look[1]):
        return False
    if not is_below(look[2], len(web.ties)) or not is_integer(look[3]) or look[3] < 1:
        return False
    return look[0] in [point for point, _ in tie_ends(web.ties[look[2]])]


def looks_sum(web, box, looks, asked):
    """The worths and the given upper numbers in all, or None where a side is given less than never."""
    stars = point_stars(web)
    given = {side: asked[side] for side in asked}
    worth = 0
    for point, direction, number, weight in looks:
        claimed = (number, direction * sign_at(web.ties[number], point))
        worth += weight * direction * box.totals[point]
        given[claimed] = given.get(claimed, 0) - weight
        for used in used_sides(web.ties, stars, claimed, point):
            given[used] = given.get(used, 0) + weight
    if any([often < 0 for often in given.values()]):
        return None
    return worth + sum([often * upper_number(box.bounds[side[0]], side[1]) for side, often in given.items()])


def nothing_paper(web, box):
    """What shows that nothing is left, or None if something is."""
    check_web_box(web, box)
    return nothing_of(web, box, run_rounds(web, box))


def nothing_of(web, box, run):
    """The paper of what `run_rounds` told."""
    word, log, bounds = run
    stars = point_stars(web)
    if word == "still":
        return None
    if word == "bare":
        return "bare", bare_point(stars, box.totals)
    if word == "crossed":
        tie = crossed_tie(bounds, log[-1])
        return looks_back(web.ties, stars, log, {(tie, 1): 1, (tie, -1): 1}, {}), ((tie, 1),)
    turns = turning_row(web.ties, stars, log)
    return looks_back(web.ties, stars, log, {}, turns), ()


def nothing_holds(web, box, value):
    """Whether any value shows that nothing is left."""
    check_web_box(web, box)
    if is_paper(value, "bare", 2):
        return is_below(value[1], web.points) and is_bare(web, box, value[1])
    if not is_tuple(value, 2) or not are_weighed(web, value[0]) or not are_widths(web, value[1]):
        return False
    asked = {(tie, side): weight for tie, weight in value[1] for side in (1, -1)}
    told = looks_sum(web, box, value[0], asked)
    return told is not None and told < 0


def is_bare(web, box, point):
    """Whether a point has no ties, but a total."""
    return box.totals[point] != 0 and not point_stars(web)[point]


def are_widths(web, widths):
    """Whether any value is pairs (tie, weight), ascending, no tie twice."""
    if not isinstance(widths, tuple) or not all([is_width(web, pair) for pair in widths]):
        return False
    numbers = [tie for tie, _ in widths]
    return numbers == sorted(numbers) and len(set(numbers)) == len(numbers)


def is_width(web, pair):
    """Whether any value is a tie and a weight from 1 on."""
    return is_tuple(pair, 2) and is_below(pair[0], len(web.ties)) and is_integer(pair[1]) and pair[1] > 0


def end_paper(web, box):
    """The end with the looks that tell each bound of it, or what shows that nothing is left."""
    check_web_box(web, box)
    run = run_rounds(web, box)
    word, log, bounds = run
    if word != "still":
        return "nothing", nothing_of(web, box, run)
    stars = point_stars(web)
    papers = []
    for tie in range(len(web.ties)):
        papers.append(tuple([looks_back(web.ties, stars, log, {(tie, side): 1}, {}) for side in (1, -1)]))
    return "end", tuple(bounds), tuple(papers)


def end_holds(web, box, value):
    """Whether any value is such a paper."""
    check_web_box(web, box)
    if is_paper(value, "nothing", 2):
        return nothing_holds(web, box, value[1])
    if not is_paper(value, "end", 3) or not is_tuple(value[1], len(web.ties)) or not is_tuple(value[2], len(web.ties)):
        return False
    if not all([isinstance(pair, tuple) and are_bounds(pair) for pair in value[1]]):
        return False
    end = Box(web, value[1], box.totals)
    if not is_still(web, end) or not is_within(web, end, box):
        return False
    return all([are_told(web, box, tie, value[1][tie], papers) for tie, papers in enumerate(value[2])])


def are_told(web, box, tie, pair, papers):
    """Whether any value is two papers' looks, which tell a tie's greatest and its least."""
    if not is_tuple(papers, 2):
        return False
    return tells(web, box, tie, 1, pair[1], papers[0]) and tells(web, box, tie, -1, pair[0], papers[1])
