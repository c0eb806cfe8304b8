"""Webs of numbered points, counted and numbered."""

from math import comb

from pushtells.branches import component_count, component_number, nth_component
from pushtells.checks import is_below, is_integer
from pushtells.cores import trusted_counts
from pushtells.courts import court2, court3
from pushtells.errors import InvalidIndex, InvalidKind, InvalidSize, Refused
from pushtells.picks import nth_pick, pick_number
from pushtells.rows import is_double, tie_sign
from pushtells.webs import Web, check_web, components

KINDS = ("accounts", "alike", "signed")
MOST_COUNTED = 60
MOST_TRUSTED = 12


def check_kind_court(kind, court):
    if kind not in KINDS:
        raise InvalidKind(-1)
    if not is_integer(court) or not 1 <= court <= 3:
        raise InvalidSize("court")


def is_cored(kind, court):
    """Whether chains and fours are let, too."""
    return court == 1 and kind != "accounts"


def web_count(kind, court, points):
    """How many webs of so many points have the court's yes."""
    check_kind_court(kind, court)
    if not is_below(points, (MOST_TRUSTED if is_cored(kind, court) else MOST_COUNTED) + 1):
        raise InvalidSize("points")
    if is_cored(kind, court):
        return all_counts([0] + trusted_counts(kind == "alike", points))[points]
    return all_counts(single_counts(kind, court, points))[points]


def single_counts(kind, court, points):
    """How many webs of one component there are, of 0 points and up to so many."""
    return [0] + [component_count(kind, court, many) for many in range(1, points + 1)]


def all_counts(singles):
    """How many webs there are, of 0 points and up to so many."""
    found = [1]
    for points in range(1, len(singles)):
        found.append(sum(firsts(singles, found, points)))
    return found


def firsts(singles, alls, points):
    """How many webs there are by how many points hang together with the first one, from 1 on."""
    return [comb(points - 1, many - 1) * singles[many] * alls[points - many] for many in range(1, points + 1)]


def nth_web(kind, court, points, number):
    """The web with this number."""
    check_kind_court(kind, court)
    if not is_integer(points) or not 1 <= points <= MOST_COUNTED:
        raise InvalidSize("points")
    if is_cored(kind, court):
        raise Refused(-1)
    singles = single_counts(kind, court, points)
    alls = all_counts(singles)
    if not is_below(number, alls[points]):
        raise InvalidIndex(-1)
    left = list(range(points))
    doubles, loose = [], []
    while left:
        many, number = first_size(firsts(singles, alls, len(left)), number)
        lot, number = divmod(number, singles[many] * alls[len(left) - many])
        at, number = divmod(number, alls[len(left) - many])
        places = [0] + [place + 1 for place in nth_pick(len(left) - 1, many - 1, lot)]
        inside = [left[place] for place in places]
        pairs, signs, ends = nth_component(kind, court, many, at)
        for pair, sign in zip(pairs, signs):
            doubles.append((inside[pair[0]], 1, inside[pair[1]], -sign))
        loose.extend([(inside[place], 1) for place in ends])
        left = [point for point in left if point not in inside]
    return Web(points, sorted(doubles) + sorted(loose))


def first_size(counts, number):
    """(many, rest): the size of the first component, and the number among those of this size."""
    for at, count in enumerate(counts):
        if number < count:
            return at + 1, number
        number -= count
    return None


def web_number(kind, court, web):
    """The number of a web."""
    check_web(web)
    check_kind_court(kind, court)
    if web.points > MOST_COUNTED or is_cored(kind, court) or not is_told(kind, court, web):
        raise Refused(-1)
    singles = single_counts(kind, court, web.points)
    alls = all_counts(singles)
    number = 0
    left = list(range(web.points))
    for lot in components(web):
        many, rest = len(lot), len(left) - len(lot)
        places = [left.index(point) - 1 for point in lot[1:]]
        number += sum(firsts(singles, alls, len(left))[:many - 1])
        number += pick_number(len(left) - 1, places) * singles[many] * alls[rest]
        number += lot_number(kind, court, web, lot) * alls[rest]
        left = [point for point in left if point not in lot]
    return number


def lot_number(kind, court, web, lot):
    """The number of a component as a web of its own."""
    places = {point: place for place, point in enumerate(lot)}
    ties = [tie for tie in web.ties if tie[0] in places]
    doubles = [tie for tie in ties if is_double(tie)]
    pairs = [(places[tie[0]], places[tie[2]]) for tie in doubles]
    loose = [places[tie[0]] for tie in ties if not is_double(tie)]
    return component_number(kind, court, len(lot), pairs, [tie_sign(tie) for tie in doubles], loose)


def is_told(kind, court, web):
    """Whether a web is just as one of these is told."""
    doubles = [tie for tie in web.ties if is_double(tie)]
    loose = [tie for tie in web.ties if not is_double(tie)]
    if list(web.ties) != sorted(doubles) + sorted(loose) or any([tie[1] == -1 for tie in web.ties]):
        return False
    if len({(tie[0], tie[2]) for tie in doubles}) < len(doubles) or len(set(loose)) < len(loose):
        return False
    barred = {"accounts": -1, "alike": 1, "signed": 0}[kind]
    if any([tie_sign(tie) == barred for tie in doubles]):
        return False
    return court3(web) if court == 3 else court2(web) and not loose
