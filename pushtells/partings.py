"""Whole fillings, or plans of partings by which there are none.

An answer is ("filling", numbers) or ("none", plan). A plan is () where nothing at all fills the box, else (tie,
number, plan, plan): what the tie has is parted at the number, and each half has a plan.
"""

from pushtells.boxes import Box, cut_box
from pushtells.fillings import doubled_filling, showing
from pushtells.hang import closing_ties, neighbours, signs_along, spreads
from pushtells.rows import doubles_of, tie_cancels, tie_ends
from pushtells.tighten import tightened
from pushtells.webs import Web, part_of


def ringed_parts(web):
    """(points, ties of two points, odd) of each component: odd: it has an odd ring."""
    found = spreads(neighbours(web.points, web.ties, doubles_of(web.ties)), list(range(web.points)))
    homes = {point: at for at, ups in enumerate(found) for point in ups}
    rows = [[] for _ in found]
    for number in doubles_of(web.ties):
        rows[homes[web.ties[number][0]]].append(number)
    parts = []
    for ups, row in zip(found, rows):
        signs = signs_along(web.ties, ups)
        odd = any([not tie_cancels(web.ties[number], signs) for number in row])
        parts.append((sorted(ups), row, odd))
    return parts


def whole_answer(web, box):
    """The answer for a box with few settings."""
    filling = doubled_filling(web, box)
    if filling is None:
        return "none", ()
    numbers = [number // 2 for number in filling]
    for lot, _, odd in ringed_parts(web):
        if odd:
            part, kept = part_of(web, lot)
            inner = Box(part, [box.bounds[number] for number in kept], [box.totals[point] for point in lot])
            word, told = odd_answer(part, inner)
            if word == "none":
                return word, renumbered(told, kept)
            for number, value in zip(kept, told):
                numbers[number] = value
    return "filling", numbers


def renumbered(plan, kept):
    """A plan by other numbers of its ties."""
    if not plan:
        return plan
    return kept[plan[0]], plan[1], renumbered(plan[2], kept), renumbered(plan[3], kept)


def odd_answer(web, box):
    """The answer for a single component with an odd ring, of a box that something fills."""
    end = tightened(web, box)
    wide = [number for number, (least, most) in enumerate(end.bounds) if least < most]
    if len(wide) < len(web.ties):
        return settled_answer(web, end, wide)
    chords = closing_ties(web.points, web.ties)
    tie = chords[0]
    middle = (end.bounds[tie][0] + end.bounds[tie][1]) // 2
    if len(chords) == 1:
        return ring_answer(web, end, tie, middle)
    plans = []
    for half in halves_of(web, end, tie, middle):
        word, told = whole_answer(web, half)
        if word == "filling":
            return word, told
        plans.append(told)
    return "none", (tie, middle, plans[0], plans[1])


def settled_answer(web, end, wide):
    """The answer where some ties have one number alone: that of the others, which may hang together no more."""
    totals = list(end.totals)
    numbers = [least for least, _ in end.bounds]
    for told, (least, most) in zip(web.ties, end.bounds):
        if least == most:
            for point, sign in tie_ends(told):
                totals[point] -= sign * least
    rest = Web(web.points, [web.ties[number] for number in wide])
    word, told = whole_answer(rest, Box(rest, [end.bounds[number] for number in wide], totals))
    if word == "none":
        return word, renumbered(told, wide)
    for number, value in zip(wide, told):
        numbers[number] = value
    return word, numbers


def ring_answer(web, end, tie, middle):
    """The answer where a tie is on the one ring, an odd one: at its middle, or on either side of it."""
    for number in range(middle, end.bounds[tie][1] + end.bounds[tie][0] - middle + 1):
        word, told = whole_answer(web, cut_box(web, end, tie, number, number))
        if word == "filling":
            return word, told
    return "none", (tie, middle, (), ())


def halves_of(web, box, tie, number):
    """The box with a tie's bounds cut to the number at the most, and to one more at the least."""
    least, most = box.bounds[tie]
    return [cut_box(web, box, tie, least, number), cut_box(web, box, tie, number + 1, most)]


def tree_of(web, box, plan):
    """The tree of partings of a plan: its leaves are signs that show what is left of the box."""
    if not plan:
        return "signs", showing(web, box.bounds, box.totals)
    below, above = halves_of(web, box, plan[0], plan[1])
    return "parted", plan[0], plan[1], tree_of(web, below, plan[2]), tree_of(web, above, plan[3])
