"""[60], [61]: who alone may be wrong."""

import itertools
import random
import unittest

from pushtells.boxes import Box
from pushtells.errors import InvalidPoint, InvalidTie, InvalidWord
from pushtells.fillings import fill_paper
from pushtells.single import right_tie, right_total, single_holds, single_paper, wrong_points, wrong_ties
from pushtells.webs import Web
from tests.helpers import (JUNK, MIXED, TRIANGLE, all_signs, are_signs, check_errors, error, great_boxes,
                           integers, lack_by_hand, no_boxes, no_points, no_ties, no_webs, pull_of, raised,
                           random_boxes, spoiled_sample, told_as, totals_of)

RING = Web(2, [(0, 1, 1, 1), (0, 1, 1, -1)])
OFF = Box(RING, [(0, 1), (0, 1)], (4, 0))
WORDS = ("point", "tie")


def many_of(web, word):
    return web.points if word == "point" else len(web.ties)


def lack_without(web, box, word, number, signs):
    """The shortage, the point's total or the tie's bounds left out."""
    lack = lack_by_hand(web, box, signs)
    if word == "point":
        return lack - signs[number] * box.totals[number]
    return lack + max(pull_of(web.ties[number], signs) * x for x in box.bounds[number])


def never_by_hand(web, box, word, number, signs):
    free = signs[number] if word == "point" else pull_of(web.ties[number], signs)
    return free == 0 and lack_by_hand(web, box, signs) > 0


def tells_end(web, box, word, number, signs, end, low):
    """Whether signs tell the least (low) or the greatest number of a point or a tie."""
    if not are_signs(web, signs):
        return False
    lack = lack_without(web, box, word, number, signs)
    if word == "point":
        return signs[number] == (-1 if low else 1) and lack == (end if low else -end)
    pull = pull_of(web.ties[number], signs)
    return (pull > 0) == low and pull != 0 and 2 * lack == pull * end


def fills_with(web, box, word, number, end, value):
    """Whether any value is a doubled filling that has this end."""
    if not integers(value, len(web.ties)):
        return False
    due = [2 * total for total in box.totals]
    if word == "point":
        due[number] = 2 * end
    elif value[number] != end:
        return False
    inside = [word == "tie" and at == number or 2 * least <= x <= 2 * most
              for at, (x, (least, most)) in enumerate(zip(value, box.bounds))]
    return totals_of(web, value) == tuple(due) and all(inside)


def single_by_hand(web, box, word, number, value):
    if told_as(value, "never", 2):
        return are_signs(web, value[1]) and never_by_hand(web, box, word, number, value[1])
    if not told_as(value, "right", 6) or type(value[1]) is not int or type(value[2]) is not int:
        return False
    _, least, greatest, low, high, fillings = value
    if type(fillings) is not tuple or len(fillings) != 2:
        return False
    return (tells_end(web, box, word, number, low, least, True)
            and tells_end(web, box, word, number, high, greatest, False)
            and fills_with(web, box, word, number, least, fillings[0])
            and fills_with(web, box, word, number, greatest, fillings[1]))


def tried_ends(web, box, word, number):
    """The ends by all numbers on the ties, halves too; doubled of a tie."""
    pairs = [range(2 * least, 2 * most + 1) for least, most in box.bounds]
    if word == "tie":
        pairs[number] = [0]
    found = []
    for row in itertools.product(*pairs):
        missing = [2 * total - told for total, told in zip(box.totals, totals_of(web, row))]
        if word == "point":
            found += [] if any(missing[:number] + missing[number + 1:]) else [totals_of(web, row)[number]]
        else:
            # What is missing at its first point the tie has, just if this is what is missing at all.
            told = web.ties[number][1] * missing[web.ties[number][0]]
            alone = totals_of(web, tuple(told if at == number else 0 for at in range(len(row))))
            found += [told] if tuple(missing) == alone else []
    if not found:
        return None
    return (min(found) // 2, max(found) // 2) if word == "point" else (min(found), max(found))


def ends_of(web, box, word, number):
    return (right_total if word == "point" else right_tie)(web, box, number)


class SingleTest(unittest.TestCase):
    def test_by_hand(self):
        self.assertEqual(right_total(RING, OFF, 0), (0, 2))
        self.assertIsNone(right_total(RING, OFF, 1))
        self.assertEqual(wrong_points(RING, OFF), (0,))
        # x + y = 4 and x - y = 0 want 2 of both.
        self.assertIsNone(right_tie(RING, OFF, 0))
        self.assertEqual(wrong_ties(RING, OFF), ())
        box = Box(RING, [(0, 1), (0, 2)], (4, 0))
        self.assertEqual(right_tie(RING, box, 0), (4, 4))
        self.assertEqual(wrong_ties(RING, box), (0,))
        self.assertIs(single_holds(RING, box, "tie", 0, ("right", 4, 4, (1, 1), (-1, -1), ((4, 4), (4, 4)))), True)
        self.assertIs(single_holds(RING, OFF, "point", 0, ("right", 0, 2, (-1, 1), (1, -1), ((0, 0), (2, 2)))), True)
        self.assertIs(single_holds(RING, OFF, "point", 1, ("never", (1, 0))), True)
        self.assertIs(single_holds(RING, OFF, "point", 0, ("never", (1, 0))), False)

    def test_an_end_between_two_whole_numbers(self):
        box = Box(TRIANGLE, [(0, 1)] * 3, (1, 1, 1))
        for tie in range(3):
            self.assertEqual(right_tie(TRIANGLE, box, tie), (1, 1))
            self.assertEqual(single_paper(TRIANGLE, box, "tie", tie)[:3], ("right", 1, 1))
        self.assertEqual(right_total(TRIANGLE, box, 2), (0, 2))
        self.assertEqual((wrong_points(TRIANGLE, box), wrong_ties(TRIANGLE, box)), ((), ()))

    def test_none_several_all(self):
        """Whom alone one may blame: nobody, one, more than one; nobody where something fills."""
        web = Web(3, [(0, 1, 1, -1), (1, 1, 2, -1)])
        box = Box(web, [(0, 9), (0, 9)], (1, 0, -2))
        self.assertEqual((wrong_points(web, box), wrong_ties(web, box)), ((0, 1, 2), ()))
        self.assertEqual([right_total(web, box, at) for at in range(3)], [(2, 2), (1, 1), (-1, -1)])
        box = Box(web, [(0, 1), (0, 1)], (2, 0, -2))
        self.assertEqual((wrong_points(web, box), wrong_ties(web, box)), ((), ()))
        box = Box(web, [(0, 1), (0, 2)], (2, 0, -2))
        self.assertEqual((wrong_points(web, box), wrong_ties(web, box)), ((), (0,)))
        bare = Web(2, [])
        self.assertEqual(wrong_points(bare, Box(bare, [], (0, 3))), (1,))
        self.assertEqual(right_total(bare, Box(bare, [], (0, 3)), 1), (0, 0))
        self.assertIsNone(right_total(bare, Box(bare, [], (0, 3)), 0))
        self.assertEqual(wrong_points(bare, Box(bare, [], (2, 3))), ())

    def test_all_numbers_and_signs(self):
        seen = {"never": 0, "right": 0, "half": 0, "filled": 0}
        for web, box in random_boxes(91, 150, 3, 4, 2) + random_boxes(92, 90, 4, 4, 1, 0):
            filled = fill_paper(web, box)[0] == "filling"
            seen["filled"] += filled
            for word, wrong in zip(WORDS, (wrong_points(web, box), wrong_ties(web, box))):
                told = [number for number in range(many_of(web, word)) if tried_ends(web, box, word, number)]
                self.assertEqual(wrong, () if filled else tuple(told))
                for number in range(many_of(web, word)):
                    ends = ends_of(web, box, word, number)
                    self.assertEqual(ends, tried_ends(web, box, word, number))
                    paper = single_paper(web, box, word, number)
                    self.assertIs(single_holds(web, box, word, number, paper), True)
                    self.assertTrue(single_by_hand(web, box, word, number, paper))
                    self.assertEqual(paper[1:3] if paper[0] == "right" else None, ends)
                    never = [never_by_hand(web, box, word, number, signs) for signs in all_signs(web)]
                    self.assertEqual(any(never), ends is None)
                    seen[paper[0]] += 1
                    seen["half"] += word == "tie" and ends is not None and (ends[0] % 2 or ends[1] % 2)
        self.assertTrue(min(seen.values()) > 7, seen)

    def test_a_half_is_told_by_a_pull_of_two(self):
        for web, box in random_boxes(93, 150, 3, 4, 2, 0):
            for tie in range(len(web.ties)):
                paper = single_paper(web, box, "tie", tie)
                if paper[0] == "right":
                    for end, signs in zip(paper[1:3], paper[3:5]):
                        self.assertTrue(end % 2 == 0 or abs(pull_of(web.ties[tie], signs)) == 2)

    def test_all_totals_between_will_do(self):
        for web, box in random_boxes(94, 80, 4, 5, 3):
            for point in range(web.points):
                ends = right_total(web, box, point) or (0, -1)
                for total in list(range(ends[0], ends[1] + 1)) + [ends[0] - 1, ends[1] + 1]:
                    totals = box.totals[:point] + (total,) + box.totals[point + 1:]
                    told = fill_paper(web, Box(web, box.bounds, totals))[0] == "filling"
                    self.assertEqual(told, ends[0] <= total <= ends[1])

    def test_all_signs(self):
        for web, box in random_boxes(95, 40, 3, 4, 2):
            for word in WORDS:
                for number in range(many_of(web, word)):
                    paper = single_paper(web, box, word, number)
                    for signs in all_signs(web):
                        near = [("never", signs)]
                        if paper[0] == "right":
                            near += [paper[:3] + (signs,) + paper[4:], paper[:4] + (signs,) + paper[5:]]
                        for value in near:
                            self.assertIs(single_holds(web, box, word, number, value),
                                          single_by_hand(web, box, word, number, value), value)

    def test_near_papers(self):
        seed = 0
        for web, box in random_boxes(96, 60, 4, 5, 3):
            for word in WORDS:
                for number in range(many_of(web, word)):
                    seed += 1
                    paper = single_paper(web, box, word, number)
                    for value in spoiled_sample(paper, seed, 40) + [("never", paper[-2]), paper[::-1]]:
                        self.assertIs(single_holds(web, box, word, number, value),
                                      single_by_hand(web, box, word, number, value), value)
        fit = ("right", 0, 2, (-1, 1), (1, -1), ((0, 0), (2, 2)))
        for junk in JUNK:
            for value in [junk, ("never", junk)] + [fit[:at] + (junk,) + fit[at + 1:] for at in range(6)] + \
                    [fit[:5] + ((junk, (2, 2)),), fit[:5] + (((0, 0), junk),), fit[:5] + (((0, 0), (2, 2), junk),)]:
                self.assertIs(single_holds(RING, OFF, "point", 0, value), single_by_hand(RING, OFF, "point", 0, value),
                              value)

    def test_great_numbers(self):
        rng = random.Random(97)
        for web, box in great_boxes(97, 2, 40, 80):
            totals = list(box.totals)
            totals[7] += 10 ** 20
            for inner in (box, Box(web, box.bounds, totals)):
                for word in WORDS:
                    number = rng.randrange(many_of(web, word))
                    paper = single_paper(web, inner, word, number)
                    self.assertIs(single_holds(web, inner, word, number, paper), True)
                    self.assertEqual(ends_of(web, inner, word, number), paper[1:3] if paper[0] == "right" else None)
            self.assertEqual(wrong_points(web, box), ())
            self.assertEqual(wrong_points(web, Box(web, box.bounds, totals)), (7,))
        for web, box in great_boxes(98, 2, 15, 24):
            bounds = list(box.bounds)
            bounds[3] = (bounds[3][1] + 10 ** 19, bounds[3][1] + 2 * 10 ** 19)
            self.assertEqual(wrong_ties(web, Box(web, bounds, box.totals)), (3,))
            self.assertEqual(wrong_ties(web, box), ())

    def test_errors(self):
        box = Box(TRIANGLE, [(0, 1)] * 3, (1, 1, 1))
        words = [(value, error(InvalidWord, at=-1)) for value in JUNK + ["points", "Tie", "ties", ("point",), ["tie"]]]
        wrong = [no_webs(), no_boxes(TRIANGLE)]
        check_errors(self, right_total, [TRIANGLE, box, 0], wrong + [no_points(TRIANGLE)])
        check_errors(self, right_tie, [TRIANGLE, box, 0], wrong + [no_ties(TRIANGLE)])
        check_errors(self, wrong_points, [TRIANGLE, box], wrong)
        check_errors(self, wrong_ties, [TRIANGLE, box], wrong)
        for call, rest in ((single_paper, []), (single_holds, [None])):
            behind = [[]] * len(rest)
            check_errors(self, call, [TRIANGLE, box, "point", 0] + rest, wrong + [words, no_points(TRIANGLE)] + behind)
            check_errors(self, call, [TRIANGLE, box, "tie", 0] + rest, wrong + [words, no_ties(TRIANGLE)] + behind)
        more = Box(MIXED, [(0, 1)] * 8, (0,) * 7)
        self.assertEqual(raised(single_paper, MIXED, more, "point", 7), error(InvalidPoint, at=-1))
        self.assertEqual(raised(single_paper, MIXED, more, "tie", 8), error(InvalidTie, at=-1))
        self.assertEqual(single_paper(MIXED, more, "tie", 7)[0], "right")


if __name__ == "__main__":
    unittest.main()
