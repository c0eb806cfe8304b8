"""[26], [27]: exact ends, the signs that stop there, and all numbers between."""

import random
import unittest

from pushtells.boxes import Box, box_widths, cut_box
from pushtells.ends import all_ends, exact_ends, stop_holds, stop_paper
from pushtells.errors import InvalidSize
from pushtells.fillings import fill_paper, filling_holds
from pushtells.webs import Web
from pushtells.whole import whole_through
from tests.helpers import (JUNK, PIPES, TRIANGLE, all_rings, all_signs, are_signs, check_errors, error, fills_by_hand,
                           great_boxes, half_rows, no_boxes, no_sides, no_ties, no_webs, odd_components, pull_of,
                           raised, random_boxes, sign_of, spoiled_sample)

HALVES = Box(TRIANGLE, [(0, 1)] * 3, (1, 1, 1))
FULL = Box(PIPES, [(0, 2)] * 3, (4, -2))


def stops_by_hand(web, box, tie, side, end, signs):
    """Whether signs or these turned about stop the tie at the doubled end, word by word."""
    for turn in (1, -1):
        told = [turn * sign for sign in signs]
        pull = pull_of(web.ties[tie], told)
        if pull not in (1, 2):
            continue
        asked = sum(sign * total for sign, total in zip(told, box.totals))
        brought = 0
        for at, (other, pair) in enumerate(zip(web.ties, box.bounds)):
            if at != tie:
                each = [pull_of(other, told) * x for x in pair]
                brought += min(each) if side == 1 else max(each)
        if pull * end == 2 * (asked - brought):
            return True
    return False


def stop_by_hand(web, box, tie, side, value):
    if type(value) is not tuple or len(value) != 3 or type(value[0]) is not int:
        return False
    end, row, signs = value
    if not fills_by_hand(web, box, row) or row[tie] != end:
        return False
    if end == 2 * box.bounds[tie][side == 1]:
        return signs is None
    return are_signs(web, signs) and stops_by_hand(web, box, tie, side, end, signs)


class EndsTest(unittest.TestCase):
    def test_by_hand(self):
        self.assertEqual(exact_ends(TRIANGLE, HALVES, 0), (1, 1))
        self.assertEqual(stop_paper(TRIANGLE, HALVES, 0, 1)[:2], (1, (1, 1, 1)))
        for signs in ((1, 1, -1), (-1, -1, 1)):
            for side in (1, -1):
                self.assertIs(stop_holds(TRIANGLE, HALVES, 0, side, (1, (1, 1, 1), signs)), True)
        for signs in ((1, -1, 1), (1, 1, 1), (0, 0, 0), (1, 0, 0), None, [1, 1, -1], (1, 1, True), (1, 1), ()):
            self.assertIs(stop_holds(TRIANGLE, HALVES, 0, 1, (1, (1, 1, 1), signs)), False, signs)
        self.assertIsNone(exact_ends(PIPES, FULL, 0))
        self.assertIsNone(stop_paper(PIPES, FULL, 2, -1))
        self.assertIsNone(all_ends(PIPES, FULL))
        self.assertIs(stop_holds(PIPES, FULL, 0, 1, None), False)
        self.assertEqual(all_ends(TRIANGLE, HALVES), ((1, 1),) * 3)

    def test_an_end_that_is_the_bound_has_no_signs(self):
        web = Web(2, [(0, 1, 1, 1), (0, 1), (1, -1)])
        box = Box(web, [(0, 9), (0, 2), (0, 3)], (5, 4))
        self.assertEqual(all_ends(web, box), ((8, 10), (0, 2), (0, 2)))
        self.assertIs(stop_holds(web, box, 1, -1, (0, (10, 0, 2), None)), True)
        self.assertIs(stop_holds(web, box, 1, -1, (0, (10, 0, 2), (1, 0))), False)
        self.assertIs(stop_holds(web, box, 0, 1, (10, (10, 0, 2), (1, 0))), True)
        self.assertIs(stop_holds(web, box, 0, 1, (10, (10, 0, 2), (-1, 0))), True)
        self.assertIs(stop_holds(web, box, 0, 1, (10, (10, 0, 2), None)), False)
        # At its greatest one end of a tie may stand where another end is asked.
        self.assertIs(stop_holds(web, box, 0, -1, (10, (10, 0, 2), (1, 0))), False)
        exact = Box(web, [(4, 5), (0, 1), (0, 1)], (5, 4))
        for tie in range(3):
            for side in (1, -1):
                self.assertIsNone(stop_paper(web, exact, tie, side)[2])

    def test_ends_are_those_of_all_fillings(self):
        seen = {"none": 0, "bound": 0, "stopped": 0, "half": 0}
        for web, box in random_boxes(61, 260, 4, 5, 2):
            rows = half_rows(web, box)
            ends = all_ends(web, box)
            self.assertEqual(ends is None, not rows)
            odd = [number for ring in all_rings(web) if sign_of(web, ring) == -1 for number in ring]
            for tie in range(len(web.ties)):
                told = exact_ends(web, box, tie)
                if not rows:
                    seen["none"] += 1
                    self.assertIsNone(told)
                    self.assertIsNone(stop_paper(web, box, tie, 1))
                    continue
                self.assertEqual(told, (min(row[tie] for row in rows), max(row[tie] for row in rows)))
                self.assertEqual(ends[tie], told)
                for side, end in ((-1, told[0]), (1, told[1])):
                    paper = stop_paper(web, box, tie, side)
                    self.assertEqual(paper[0], end)
                    self.assertIs(stop_holds(web, box, tie, side, paper), True)
                    self.assertTrue(stop_by_hand(web, box, tie, side, paper))
                    seen["bound" if paper[2] is None else "stopped"] += 1
                    seen["half"] += end % 2
                    self.assertTrue(end % 2 == 0 or tie in odd)
        self.assertTrue(min(seen.values()) > 8, seen)

    def test_all_signs_and_fillings(self):
        """The judge and the words of the document, over all triples."""
        rng = random.Random(62)
        for web, box in random_boxes(63, 60, 3, 4, 2):
            rows = half_rows(web, box)
            for tie in range(len(web.ties)):
                for side in (-1, 1):
                    for row in rng.sample(rows, min(len(rows), 4)):
                        for signs in all_signs(web) + [None]:
                            for end in (row[tie], row[tie] + 1):
                                value = (end, row, signs)
                                self.assertIs(stop_holds(web, box, tie, side, value),
                                              stop_by_hand(web, box, tie, side, value), value)

    def test_a_triple_that_holds_tells_the_end(self):
        for web, box in random_boxes(64, 60, 3, 4, 2):
            rows = half_rows(web, box)
            for tie in range(len(web.ties)):
                for row in rows[:6] + rows[-6:]:
                    for signs in all_signs(web) + [None]:
                        for side, best in ((-1, min), (1, max)):
                            if stop_holds(web, box, tie, side, (row[tie], row, signs)):
                                self.assertEqual(row[tie], best(each[tie] for each in rows))

    def test_near_papers(self):
        seed = 0
        for web, box in random_boxes(65, 40, 4, 5, 3):
            for tie in range(len(web.ties)):
                seed += 1
                side = 1 if seed % 2 else -1
                paper = stop_paper(web, box, tie, side)
                for value in spoiled_sample(paper, seed, 60):
                    self.assertIs(stop_holds(web, box, tie, side, value), stop_by_hand(web, box, tie, side, value), value)
        for value in JUNK + [(1, (1, 1, 1), value) for value in JUNK] + [(value, (1, 1, 1), (1, 1, -1)) for value in JUNK]:
            self.assertIs(stop_holds(TRIANGLE, HALVES, 0, 1, value), stop_by_hand(TRIANGLE, HALVES, 0, 1, value), value)

    def test_all_numbers_between_stand_in_fillings(self):
        """[27]: whole ones in fillings in whole numbers, where the component has no odd ring."""
        seen = 0
        for web, box in random_boxes(66, 150, 4, 5, 3):
            odd = [point for lot in odd_components(web) for point in lot]
            for tie, pair in enumerate(all_ends(web, box) or ()):
                for number in range(-(-pair[0] // 2), pair[1] // 2 + 1):
                    word, row = fill_paper(web, cut_box(web, box, tie, number, number))
                    self.assertEqual(word, "filling")
                    self.assertEqual(row[tie], 2 * number)
                    lot = [at for at, told in enumerate(web.ties) if told[0] not in odd]
                    if tie in lot:
                        seen += 1
                        self.assertTrue(all(row[at] % 2 == 0 for at in lot))
                        if not odd:
                            self.assertEqual(whole_through(web, box, tie, number)[tie], number)
                for number in (pair[0] // 2 - 1, pair[1] // 2 + 1):
                    cut = cut_box(web, box, tie, number, number)
                    self.assertTrue(cut is None or fill_paper(web, cut)[0] == "signs")
        self.assertGreater(seen, 100)

    def test_limit_of_all_ends(self):
        web = Web(2, [(0, 1, 1, -1)] * 20 + [(0, 1)] * 20)
        box = Box(web, [(0, 1)] * 40, (40, -20))
        self.assertEqual(all_ends(web, box), ((2, 2),) * 40)
        more = Web(2, list(web.ties) + [(1, 1)])
        over = Box(more, [(0, 1)] * 41, (40, -20))
        self.assertEqual(raised(all_ends, more, over), error(InvalidSize, word="ties"))
        self.assertEqual(exact_ends(more, over, 40), (0, 0))
        self.assertEqual(raised(all_ends, more, Box(more, [(0, 1)] * 41, (99, 0))), error(InvalidSize, word="ties"))
        self.assertIsNone(all_ends(web, Box(web, [(0, 1)] * 40, (41, -20))))
        self.assertEqual(all_ends(Web(1, []), Box(Web(1, []), [], [0])), ())
        self.assertIsNone(all_ends(Web(1, []), Box(Web(1, []), [], [1])))

    def test_great_webs(self):
        for web, box in great_boxes(67):
            for tie in (0, 200, 359):
                pair = exact_ends(web, box, tie)
                for side, end in zip((-1, 1), pair):
                    paper = stop_paper(web, box, tie, side)
                    self.assertEqual(paper[0], end)
                    self.assertIs(stop_holds(web, box, tie, side, paper), True)
                    self.assertIs(filling_holds(web, box, paper[1]), True)
            self.assertGreater(max(box_widths(web, box)), 10 ** 17)
        for web, box in great_boxes(68, 2, 30, 40):
            ends = all_ends(web, box)
            self.assertEqual(ends, tuple(exact_ends(web, box, tie) for tie in range(40)))

    def test_errors(self):
        wrong = [no_webs(), no_boxes(TRIANGLE), no_ties(TRIANGLE), no_sides()]
        check_errors(self, exact_ends, [TRIANGLE, HALVES, 0], wrong[:3])
        check_errors(self, stop_paper, [TRIANGLE, HALVES, 0, 1], wrong)
        check_errors(self, stop_holds, [TRIANGLE, HALVES, 0, 1, None], wrong + [[]])
        check_errors(self, all_ends, [TRIANGLE, HALVES], wrong[:2])
        check_errors(self, exact_ends, [PIPES, FULL, 0], [[], [], no_ties(PIPES)])


if __name__ == "__main__":
    unittest.main()
