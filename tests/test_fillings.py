"""[25]: fillings, and signs that show that there are none."""

import random
import unittest

from pushtells.boxes import Box, cut_box, moved_box
from pushtells.fillings import fill_holds, fill_paper, filling_holds
from pushtells.signs import hanging_parts, shortage
from pushtells.tighten import tightened
from pushtells.webs import Web, side_by_side
from tests.helpers import (JUNK, MIXED, PIPES, TRIANGLE, all_signs, check_errors, fills_by_hand, great_boxes, half_rows,
                           no_boxes, no_webs, odd_components, random_boxes, shows_by_hand, spoiled_sample,
                           strict, told_as, totals_of)
from tests.webs import trusted_webs

FULL = Box(PIPES, [(0, 2)] * 3, (4, -2))
HALVES = Box(TRIANGLE, [(0, 1)] * 3, (1, 1, 1))


def holds_by_hand(web, box, value):
    if told_as(value, "filling", 2):
        return fills_by_hand(web, box, value[1])
    return told_as(value, "signs", 2) and shows_by_hand(web, box, value[1])


def check_paper(case, web, box, paper):
    """What [25] says of the paper that is told."""
    case.assertIs(fill_holds(web, box, paper), True)
    case.assertTrue(holds_by_hand(web, box, paper))
    if paper[0] == "filling":
        odd = [point for lot in odd_components(web) for point in lot] if len(web.ties) < 12 else range(web.points)
        for tie, number in zip(web.ties, paper[1]):
            case.assertTrue(tie[0] in odd or number % 2 == 0)
    else:
        case.assertEqual(len(hanging_parts(web, paper[1])), 1)


class FillingsTest(unittest.TestCase):
    def test_by_hand(self):
        self.assertEqual(fill_paper(TRIANGLE, HALVES), ("filling", (1, 1, 1)))
        self.assertEqual(fill_paper(PIPES, FULL), ("signs", (1, 1)))
        alone = Web(2, [])
        self.assertEqual(fill_paper(alone, Box(alone, [], (0, 0))), ("filling", ()))
        self.assertEqual(fill_paper(alone, Box(alone, [], (0, 3))), ("signs", (0, 1)))
        self.assertEqual(fill_paper(alone, Box(alone, [], (-1, 0))), ("signs", (-1, 0)))
        two = side_by_side(alone, PIPES)
        self.assertIn(fill_paper(two, Box(two, [(0, 2)] * 3, (1, 1, 4, -2)))[1], ((1, 0, 0, 0), (0, 1, 0, 0), (0, 0, 1, 1)))

    def test_judge_by_hand(self):
        self.assertIs(filling_holds(TRIANGLE, HALVES, (1, 1, 1)), True)
        for value in ((1, 1), (1, 1, 1, 1), [1, 1, 1], (True, 1, 1), (1, 1, 3), (0, 2, 0), (2, 2, 2), None, ()):
            self.assertIs(filling_holds(TRIANGLE, HALVES, value), False, value)
            self.assertIs(fill_holds(TRIANGLE, HALVES, ("filling", value)), False, value)
        out = Box(TRIANGLE, [(1, 5)] * 3, (1, 1, 1))
        self.assertIs(filling_holds(TRIANGLE, out, (1, 1, 1)), False)
        self.assertIs(fill_holds(PIPES, FULL, ("signs", (1, 1))), True)
        for value in ((-1, -1), (1, 0), [1, 1], (True, 1), (1, 1, 0), (0, 0), (2, 2), None):
            self.assertIs(fill_holds(PIPES, FULL, ("signs", value)), False, value)
        for value in (("fillings", (1, 1, 1)), ("filling", (1, 1, 1), 0), ["filling", (1, 1, 1)], (1, 1, 1)):
            self.assertIs(fill_holds(TRIANGLE, HALVES, value), False, value)

    def test_just_one_of_both(self):
        seen = {"filling": 0, "signs": 0, "halves": 0}
        for at, (web, box) in enumerate(random_boxes(51, 300, 4, 4, 2)):
            paper = fill_paper(web, box)
            check_paper(self, web, box, paper)
            rows = half_rows(web, box)
            shown = [signs for signs in all_signs(web) if shows_by_hand(web, box, signs)]
            self.assertEqual([bool(rows), not rows], [not shown, bool(shown)])
            self.assertEqual(paper[0], "filling" if rows else "signs")
            seen[paper[0]] += 1
            for row in rows[:20]:
                self.assertIs(filling_holds(web, box, row), True)
                self.assertIs(fill_holds(web, box, ("filling", row)), True)
            for signs in all_signs(web):
                self.assertIs(fill_holds(web, box, ("signs", signs)), signs in shown)
            seen["halves"] += not any(all(x % 2 == 0 for x in row) for row in rows)
        self.assertTrue(min(seen.values()) > 30, seen)

    def test_fractions_that_fill_leave_no_signs(self):
        """A filling in thirds: the box has a filling in halves, too."""
        rng = random.Random(52)
        for web, box in random_boxes(53, 120, 4, 6, 3):
            thirds = Box(web, [(3 * least, 3 * most) for least, most in box.bounds], [0] * web.points)
            row = [rng.randint(*pair) for pair in thirds.bounds]
            totals = [0] * web.points
            for number, tie in zip(row, web.ties):
                for at in range(0, len(tie), 2):
                    totals[tie[at]] += tie[at + 1] * number
            if all(total % 3 == 0 for total in totals):
                filled = Box(web, box.bounds, [total // 3 for total in totals])
                check_paper(self, web, filled, fill_paper(web, filled))
                self.assertEqual(fill_paper(web, filled)[0], "filling")

    def test_near_papers(self):
        held = {True: 0, False: 0}
        for seed, (web, box) in enumerate(random_boxes(54, 40, 4, 5, 3)):
            paper = fill_paper(web, box)
            for value in spoiled_sample(paper, seed, 150):
                told = holds_by_hand(web, box, value)
                held[told] += 1
                self.assertIs(fill_holds(web, box, value), told, value)
            for value in spoiled_sample(paper[1], seed, 60):
                self.assertIs(filling_holds(web, box, value), fills_by_hand(web, box, value), value)
        self.assertGreater(held[False], 1500)

    def test_any_value(self):
        for web, box in ((TRIANGLE, HALVES), (PIPES, FULL), (Web(1, []), Box(Web(1, []), [], [0]))):
            for value in JUNK + [("filling", value) for value in JUNK] + [("signs", value) for value in JUNK]:
                self.assertIs(fill_holds(web, box, value), holds_by_hand(web, box, value), value)
                self.assertIs(filling_holds(web, box, value), fills_by_hand(web, box, value), value)

    def test_a_whole_number_is_told_doubled(self):
        web = Web(1, [(0, 1)])
        box = Box(web, [(3, 4)], [3])
        self.assertEqual(fill_paper(web, box), ("filling", (6,)))
        self.assertIs(filling_holds(web, box, (3,)), False)
        big = Box(web, [(-10 ** 18, 10 ** 18)], [10 ** 18])
        self.assertEqual(fill_paper(web, big), ("filling", (2 * 10 ** 18,)))
        self.assertEqual(fill_paper(web, Box(web, [(-10 ** 18, 10 ** 18)], [10 ** 18 + 1])), ("signs", (1,)))
        self.assertEqual(fill_paper(web, Box(web, [(-10 ** 18, 10 ** 18)], [-10 ** 18 - 1])), ("signs", (-1,)))

    def test_what_trusted_webs_leave_is_filled(self):
        rng = random.Random(55)
        for web in trusted_webs(56):
            box = Box(web, [(rng.randint(-9, 0), rng.randint(0, 9)) for _ in web.ties],
                      [rng.randint(-2, 2) for _ in range(web.points)])
            paper = fill_paper(web, box)
            self.assertEqual(paper[0] == "filling", tightened(web, box) is not None)
            self.assertIs(fill_holds(web, box, paper), True)

    def test_cut_and_moved(self):
        for web, box in random_boxes(57, 80, 4, 5, 4):
            paper = fill_paper(web, box)
            for tie in range(len(web.ties)):
                moved = moved_box(web, box, tie, 10 ** 18)
                self.assertEqual(fill_paper(web, moved)[0], paper[0])
                cut = cut_box(web, box, tie, *([box.bounds[tie][0]] * 2))
                if paper[0] == "signs":
                    self.assertEqual(fill_paper(web, cut)[0], "signs")
                    self.assertIs(fill_holds(web, cut, paper), True)

    def test_great_webs(self):
        for web, box in great_boxes(58):
            paper = fill_paper(web, box)
            self.assertEqual(paper[0], "filling")
            self.assertIs(fill_holds(web, box, paper), True)
            narrow = Box(web, [(least, least) for least, _ in box.bounds], box.totals)
            paper = fill_paper(web, narrow)
            self.assertEqual(paper[0], "signs")
            self.assertGreater(shortage(web, narrow, paper[1]), 0)
            self.assertEqual(len(hanging_parts(web, paper[1])), 1)

    def test_even_components_have_whole_numbers(self):
        """Beside odd ones, too: turned as one likes, their numbers are even."""
        rng = random.Random(59)
        for points, ties in ((6, 12), (40, 90), (75, 150)):
            turns = [rng.choice((1, -1)) for _ in range(points)]
            told = []
            for _ in range(ties):
                one, other = rng.sample(range(points), 2)
                told.append((one, turns[one], other, -turns[other]))
            told += [(rng.randrange(points), rng.choice((1, -1))) for _ in range(points // 4)]
            web = side_by_side(Web(points, told), TRIANGLE)
            row = [2 * rng.randint(-9, 9) for _ in told] + [1, 1, 1]
            box = Box(web, [((x - rng.randint(0, 5)) // 2, (x + rng.randint(1, 5)) // 2) for x in row],
                      [total // 2 for total in totals_of(web, row)])
            word, numbers = fill_paper(web, box)
            self.assertEqual((word, fill_holds(web, box, (word, numbers))), ("filling", True))
            self.assertEqual([x % 2 for x in numbers], [0] * len(told) + [1] * 3)

    def test_errors(self):
        check_errors(self, fill_paper, [TRIANGLE, HALVES], [no_webs(), no_boxes(TRIANGLE)])
        for call in (filling_holds, fill_holds):
            check_errors(self, call, [TRIANGLE, HALVES, None], [no_webs(), no_boxes(TRIANGLE), []])
        self.assertEqual(strict(fill_paper(MIXED, Box(MIXED, [[0, 0]] * 8, [0] * 7))), strict(("filling", (0,) * 8)))


if __name__ == "__main__":
    unittest.main()
