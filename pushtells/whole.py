"""Whole fillings, and what shows that a box has none."""

from pushtells.boxes import check_web_box, cut_box
from pushtells.checks import check_tie, is_below, is_integer, is_paper
from pushtells.errors import InvalidSize, InvalidValue
from pushtells.fillings import fits
from pushtells.hang import closing_ties
from pushtells.partings import ringed_parts, tree_of, whole_answer
from pushtells.signs import do_show
from pushtells.tighten import tightened

MOST_SETTINGS = 4096


def settling_chords(web):
    """The chords of all components with an odd ring and two chords or more."""
    closing = {number: True for number in closing_ties(web.points, web.ties)}
    found = []
    for _, row, odd in ringed_parts(web):
        chords = [number for number in row if number in closing]
        if odd and len(chords) > 1:
            found.extend(chords)
    return found


def check_settings(web, box):
    """Boxes with an end have as many settings as their chords can be set within it."""
    chords = settling_chords(web)
    end = tightened(web, box) if chords else None
    if end is None:
        return
    settings = 1
    for number in chords:
        settings *= end.bounds[number][1] - end.bounds[number][0] + 1
    if settings > MOST_SETTINGS:
        raise InvalidSize("settings")


def whole_filling(web, box):
    """Some whole filling, or None."""
    check_web_box(web, box)
    check_settings(web, box)
    return row_of(whole_answer(web, box))


def row_of(answer):
    """The numbers of an answer, or None."""
    return tuple(answer[1]) if answer[0] == "filling" else None


def is_whole_filling(web, box, value):
    """Whether any value is a whole filling."""
    check_web_box(web, box)
    return fits(web, box.bounds, box.totals, value)


def whole_through(web, box, tie, number):
    """Some whole filling that has this number at the tie, or None."""
    check_web_box(web, box)
    check_tie(web, tie)
    if not is_integer(number):
        raise InvalidValue(-1)
    check_settings(web, box)
    through = cut_box(web, box, tie, number, number)
    if through is None:
        return None
    return row_of(whole_answer(web, through))


def whole_paper(web, box):
    """A whole filling, or a tree of partings that shows that there is none."""
    check_web_box(web, box)
    check_settings(web, box)
    return whole_told(web, box)


def whole_told(web, box):
    """The paper of a box with few settings."""
    word, told = whole_answer(web, box)
    return word, tuple(told) if word == "filling" else tree_of(web, box, told)


def whole_holds(web, box, value):
    """Whether any value is a whole filling, or a tree of partings that shows that there is none."""
    check_web_box(web, box)
    if is_paper(value, "filling", 2):
        return is_whole_filling(web, box, value[1])
    return is_paper(value, "none", 2) and is_none_tree(web, box, value[1])


def is_none_tree(web, box, tree):
    """Whether any value is a tree all of whose leaves show what the partings leave of the box."""
    due = [(box.bounds, tree)]
    while due:
        bounds, told = due.pop()
        if is_paper(told, "signs", 2):
            if not do_show(web, bounds, box.totals, told[1]):
                return False
        elif is_parting(bounds, told):
            tie, number = told[1], told[2]
            least, most = bounds[tie]
            due.append((bounds[:tie] + ((least, number),) + bounds[tie + 1:], told[3]))
            due.append((bounds[:tie] + ((number + 1, most),) + bounds[tie + 1:], told[4]))
        else:
            return False
    return True


def is_parting(bounds, told):
    """Whether any value is a parting that leaves a number of its tie on either side."""
    if not is_paper(told, "parted", 5) or not is_below(told[1], len(bounds)) or not is_integer(told[2]):
        return False
    return bounds[told[1]][0] <= told[2] < bounds[told[1]][1]
