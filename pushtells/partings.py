"""Whole fillings, or trees of partings that show that there is none.

An answer is ("filling", numbers) or ("none", tree), as `whole_paper` tells it.
"""

from pushtells.boxes import Box, cut_box
from pushtells.copies import copy_numbers, twice
from pushtells.fillings import doubled_filling, showing
from pushtells.hang import closing_ties, neighbours, sign_row, signs_along, spreads
from pushtells.rows import doubles_of, tie_cancels, tie_ends
from pushtells.tighten import tightened
from pushtells.webs import Web, part_of


def ringed_parts(web, chosen):
    """(points, ties, odd) of each lot that hangs together by chosen ties of two points: odd: it has an odd ring."""
    found = spreads(neighbours(web.points, web.ties, chosen), list(range(web.points)))
    homes = {point: at for at, ups in enumerate(found) for point in ups}
    rows = [[] for _ in found]
    for number in chosen:
        rows[homes[web.ties[number][0]]].append(number)
    parts = []
    for ups, row in zip(found, rows):
        signs = signs_along(web.ties, ups)
        odd = any([not tie_cancels(web.ties[number], signs) for number in row])
        parts.append((sorted(ups), row, odd))
    return parts


def whole_answer(web, box):
    """The answer for a box with few settings."""
    filling = doubled_filling(web, box)
    if filling is None:
        return "none", signs_leaf(web, box)
    numbers = [number // 2 for number in filling]
    for lot, _, odd in ringed_parts(web, doubles_of(web.ties)):
        if odd:
            word, told, kept = part_answer(web, box, lot)
            if word == "none":
                return word, told
            for number, value in zip(kept, told):
                numbers[number] = value
    return "filling", tuple(numbers)


def signs_leaf(web, box):
    """The tree of a box that nothing fills."""
    return "signs", showing(web, box.bounds, box.totals)


def part_answer(web, box, lot):
    """(word, told, ties) of a component with an odd ring, by the numbers of the web."""
    part, kept = part_of(web, lot)
    inner = Box(part, [box.bounds[number] for number in kept], [box.totals[point] for point in lot])
    chords = {number: True for number in closing_ties(part.points, part.ties)}
    word, told = searched(part, inner, chords)
    return word, told if word == "filling" else whole_tree(web, told, lot, kept), kept


def whole_tree(web, tree, lot, kept):
    """The tree of a part of the web by the numbers of the web."""
    if tree[0] == "signs":
        return "signs", sign_row(web.points, {point: sign for point, sign in zip(lot, tree[1])})
    below, above = [whole_tree(web, side, lot, kept) for side in tree[3:]]
    return "parted", kept[tree[1]], tree[2], below, above


def searched(web, box, chords):
    """The answer for one component: chords are parted till at most single rings hang together."""
    end = tightened(web, box)
    if end is None or doubled_filling(web, end) is None:
        return "none", signs_leaf(web, box)
    wide = [number for number in doubles_of(web.ties) if end.bounds[number][0] < end.bounds[number][1]]
    rows = []
    for points, row, odd in ringed_parts(web, wide):
        if odd and len(row) > len(points):
            tie = [number for number in row if number in chords][0]
            return parted(web, box, chords, tie, middle_of(end.bounds[tie]))
        if odd:
            rows.append(row)
    return tried(web, box, end, rows)


def middle_of(pair):
    """The middle of two bounds, or the lesser whole number where it lies between two."""
    return (pair[0] + pair[1]) // 2


def halves_of(web, box, tie, number):
    """The box with a tie's bounds cut to the number at the most, and to one more at the least."""
    least, most = box.bounds[tie]
    return [cut_box(web, box, tie, least, number), cut_box(web, box, tie, number + 1, most)]


def parted(web, box, chords, tie, number):
    """The answer by those of both halves."""
    trees = []
    for half in halves_of(web, box, tie, number):
        word, told = searched(web, half, chords)
        if word == "filling":
            return word, told
        trees.append(told)
    return "none", ("parted", tie, number, trees[0], trees[1])


def tried(web, box, end, rows):
    """The answer where each of these rows of ties has one ring, an odd one, and nothing else has an odd ring."""
    settled = end
    for row in rows:
        tie = row[closing_ties(web.points, [web.ties[number] for number in row])[0]]
        middle = middle_of(end.bounds[tie])
        cuts = [cut_box(web, settled, tie, number, number) for number in (middle, middle + 1)]
        left = [cut for cut in cuts if cut is not None and tightened(web, cut) is not None]
        if not left:
            below, above = [signs_leaf(web, half) for half in halves_of(web, box, tie, middle)]
            return "none", ("parted", tie, middle, below, above)
        settled = left[0]
    return "filling", level_numbers(web, settled)


def level_numbers(web, box):
    """A whole filling where ties with unlike bounds make no odd ring."""
    wide = [number for number, (least, most) in enumerate(box.bounds) if least < most]
    totals = list(box.totals)
    numbers = [least for least, _ in box.bounds]
    for number, (least, most) in enumerate(box.bounds):
        if least == most:
            for point, sign in tie_ends(web.ties[number]):
                totals[point] -= sign * least
    rest = Web(web.points, [web.ties[number] for number in wide])
    found = copy_numbers(rest.points, rest.ties, twice([box.bounds[number] for number in wide]), totals)
    for number, value in zip(wide, found[::2]):
        numbers[number] = value
    return tuple(numbers)
