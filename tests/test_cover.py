"""[24], [28]: signs with the greatest shortage, and the double cover."""

import itertools
import random
import unittest

from pushtells.boxes import Box
from pushtells.cover import cover_box, cover_web, lifted, put_down, signs_down, worst_signs
from pushtells.errors import InvalidRow, InvalidSigns, InvalidSize, InvalidWeights
from pushtells.fillings import fill_paper, filling_holds
from pushtells.signs import shortage, signs_show
from pushtells.webs import Web, components, tie_kind
from pushtells.whole import is_whole_filling, whole_filling
from tests.helpers import (MIXED, NO_INTEGERS, NO_SEQUENCES, PIPES, TRIANGLE, all_signs, check_errors, doubles, error,
                           great_boxes, half_rows, lack_by_hand, lots_by_hand, no_boxes, no_rows, no_webs,
                           odd_components, pull_of, raised, random_boxes, random_webs, whole_rows)

BIG = 10 ** 18
FULL = Box(PIPES, [(0, 2)] * 3, (4, -2))


def side_with(point, sign):
    """The side of a point where a tie that has this sign there has the sign 1."""
    return 2 * point if sign == 1 else 2 * point + 1


def cover_by_hand(web):
    """The ties above, word by word."""
    ties = []
    for tie in web.ties:
        first = side_with(tie[0], tie[1])
        other_first = first + 1 if first % 2 == 0 else first - 1
        if len(tie) == 2:
            ties += [(first, 1), (other_first, -1)]
        else:
            second = side_with(tie[2], -tie[3])
            other_second = second + 1 if second % 2 == 0 else second - 1
            ties += [(first, 1, second, -1), (other_first, -1, other_second, 1)]
    return Web(2 * web.points, ties)


def worst_by_hand(web, box, p, q, weights):
    """The greatest q times shortage less p times weighed pulls, of all signs."""
    return max(q * lack_by_hand(web, box, signs) -
               p * sum(w * abs(pull_of(tie, signs)) for w, tie in zip(weights, web.ties)) for signs in all_signs(web))


def value_of(web, box, signs, p, q, weights):
    return q * lack_by_hand(web, box, signs) - p * sum(w * abs(pull_of(t, signs)) for w, t in zip(weights, web.ties))


class WorstTest(unittest.TestCase):
    def test_by_hand(self):
        self.assertEqual(worst_signs(PIPES, FULL), (2, (1, 1)))
        self.assertEqual(worst_signs(PIPES, Box(PIPES, [(0, 2)] * 3, (4, -4)))[0], 0)
        self.assertEqual(worst_signs(PIPES, FULL, (0, 5)), (10, (1, 1)))
        alone = Web(1, [])
        self.assertEqual(worst_signs(alone, Box(alone, [], [-7])), (7, (-1,)))
        self.assertEqual(worst_signs(alone, Box(alone, [], [0]))[0], 0)

    def test_less_takes_off_weighed_pulls(self):
        web = Web(1, [(0, 1), (0, 1)])
        box = Box(web, [(0, 2), (0, 3)], [9])
        self.assertEqual(worst_signs(web, box), (4, (1,)))
        self.assertEqual(worst_signs(web, box, (1, 1)), (2, (1,)))
        self.assertEqual(worst_signs(web, box, (1, 1), (1, 2)), (1, (1,)))
        self.assertEqual(worst_signs(web, box, [1, 3], [5, 2]), (5, (1,)))
        self.assertEqual(worst_signs(web, box, (1, 1), (2, 2))[0], 0)
        self.assertEqual(worst_signs(web, box, (5, 1), (1, 1)), (0, (0,)))
        self.assertEqual(worst_signs(web, box, (5, 1), (0, 0)), (4, (1,)))
        self.assertEqual(worst_signs(web, box, weights=None, less=(2, 3)), (8, (1,)))

    def test_a_pull_by_two_counts_twice(self):
        web = Web(2, [(0, 1, 1, 1)])
        box = Box(web, [(0, 0)], [5, 5])
        self.assertEqual(worst_signs(web, box, (1, 1), (3,)), (4, (1, 1)))
        self.assertEqual(worst_signs(web, box, (1, 2), (3,)), (14, (1, 1)))

    def test_all_signs(self):
        rng = random.Random(41)
        seen = {True: 0, False: 0}
        for web, box in random_boxes(42, 250, 4, 6, 4):
            for p, q, weights in ((0, 1, None), (1, 1, None), (rng.randint(0, 4), rng.randint(1, 4),
                                                              [rng.randint(0, 3) for _ in web.ties])):
                told = [1] * len(web.ties) if weights is None else weights
                number, signs = worst_signs(web, box, (p, q), weights)
                self.assertEqual(number, worst_by_hand(web, box, p, q, told))
                self.assertIn(signs, all_signs(web))
                self.assertEqual(number, value_of(web, box, signs, p, q, told))
                seen[number > 0] += 1
            self.assertEqual(worst_signs(web, box)[0] > 0, fill_paper(web, box)[0] == "signs")
        self.assertTrue(min(seen.values()) > 50, seen)

    def test_great_numbers(self):
        for web, box in great_boxes(43):
            self.assertEqual(worst_signs(web, box)[0], 0)
            less, weights = (BIG, BIG - 1), [BIG - at for at in range(len(web.ties))]
            totals = [total + 10 ** 21 for total in box.totals]
            number, signs = worst_signs(web, Box(web, box.bounds, totals), less, weights)
            self.assertEqual(number, value_of(web, Box(web, box.bounds, totals), signs, *less, weights))
            for point in (0, 77, 149):
                nearer = tuple(0 if at == point else sign for at, sign in enumerate(signs))
                self.assertLessEqual(value_of(web, Box(web, box.bounds, totals), nearer, *less, weights), number)

    def test_errors(self):
        box = Box(TRIANGLE, [(0, 1)] * 3, (1, 1, 1))
        less = [None, True, 3, "", "12", (), (1,), (0, 1, 1), (0, 0), (0, -1), (-1, 1), [-1, 5], (True, 1), (0, True),
                (None, 1), (0, "1"), (0, (1,)), TRIANGLE]
        weights = no_rows(InvalidWeights, 3, 0, NO_INTEGERS[1:] + [None, -1, -BIG])
        wrong = [no_webs(), no_boxes(TRIANGLE), [(pair, error(InvalidSize, word="less")) for pair in less],
                 [pair for pair in weights if pair[0] is not None]]
        check_errors(self, worst_signs, [TRIANGLE, box, (0, 1), (1, 1, 1)], wrong)
        self.assertEqual(raised(worst_signs, TRIANGLE, box, (0, 1), (BIG, 0, BIG)), (0, (0, 0, 0)))
        self.assertEqual(worst_signs(TRIANGLE, box, (BIG, BIG))[0], 0)


class CoverTest(unittest.TestCase):
    def test_by_hand(self):
        web = Web(3, [(0, 1, 1, 1), (1, -1, 2, 1), (2, -1), (0, 1), (0, -1, 2, -1)])
        self.assertEqual(cover_web(web).points, 6)
        self.assertEqual(cover_web(web).ties, ((0, 1, 3, -1), (1, -1, 2, 1), (3, 1, 5, -1), (2, -1, 4, 1), (5, 1),
                                               (4, -1), (0, 1), (1, -1), (1, 1, 4, -1), (0, -1, 5, 1)))
        box = Box(web, [(0, 1), (2, 5), (-1, 0), (7, 7), (-9, 9)], (4, 0, -5))
        self.assertEqual(cover_box(web, box).bounds, ((0, 1),) * 2 + ((2, 5),) * 2 + ((-1, 0),) * 2 + ((7, 7),) * 2 +
                         ((-9, 9),) * 2)
        self.assertEqual(cover_box(web, box).totals, (4, -4, 0, 0, -5, 5))

    def test_webs(self):
        for web in random_webs(44, 150, 5, 8) + [MIXED, Web(1, [])]:
            above = cover_web(web)
            self.assertEqual(above, cover_by_hand(web))
            self.assertEqual(sorted({tie_kind(above, tie) for tie in doubles(above)} - {"even"}), [])
            odd = odd_components(web)
            for lot in lots_by_hand(web):
                sides = [side for point in lot for side in (2 * point, 2 * point + 1)]
                parts = [part for part in components(above) if part[0] in sides]
                self.assertEqual(len(parts), 1 if lot in odd else 2)
                self.assertEqual(sorted(side for part in parts for side in part), sides)

    def test_whole_fillings_above_are_put_down(self):
        seen = {True: 0, False: 0}
        for web, box in random_boxes(45, 200, 3, 4, 2):
            above, over = cover_web(web), cover_box(web, box)
            numbers = whole_filling(above, over)
            seen[numbers is None] += 1
            self.assertEqual(numbers is None, not half_rows(web, box))
            if numbers is not None:
                self.assertIs(is_whole_filling(above, over, numbers), True)
                self.assertIs(filling_holds(web, box, put_down(web, numbers)), True)
                self.assertEqual(put_down(web, list(numbers)), tuple(a + b for a, b in zip(numbers[::2], numbers[1::2])))
        self.assertTrue(min(seen.values()) > 20, seen)

    def test_lifted_numbers_are_put_down_as_they_were(self):
        rng = random.Random(46)
        for web, box in random_boxes(47, 60, 3, 4, 2):
            for row in whole_rows(web, box)[:3]:
                z = tuple(2 * x for x in row)
                self.assertEqual(lifted(web, z), tuple(x for x in row for _ in range(2)))
                self.assertIs(is_whole_filling(cover_web(web), cover_box(web, box), lifted(web, list(z))), True)
                self.assertEqual(put_down(web, lifted(web, z)), z)
        self.assertEqual(lifted(TRIANGLE, (-6, 0, 2 * BIG)), (-3, -3, 0, 0, BIG, BIG))
        self.assertEqual(put_down(TRIANGLE, (1, 2, -BIG, -BIG, rng.randint(3, 3), -3)), (3, -2 * BIG, 0))
        self.assertEqual((lifted(Web(1, []), ()), put_down(Web(1, []), [])), ((), ()))

    def test_signs_lead_down(self):
        self.assertEqual(signs_down(TRIANGLE, (1, 0, 0, 1, 1, 1)), (1, -1, 0))
        shown = 0
        for web, box in random_boxes(48, 120, 3, 4, 2):
            above, over = cover_web(web), cover_box(web, box)
            for signs in itertools.product((0, 1), repeat=above.points):
                down = signs_down(web, signs)
                self.assertEqual(down, tuple(a - b for a, b in zip(signs[::2], signs[1::2])))
                self.assertGreaterEqual(shortage(web, box, down), shortage(above, over, signs))
                if signs_show(above, over, signs):
                    shown += 1
                    self.assertIs(signs_show(web, box, down), True)
                turned = tuple(-sign for sign in signs)
                if signs_show(above, over, turned):
                    self.assertIs(signs_show(web, box, tuple(-sign for sign in down)), True)
            for signs in all_signs(web):
                one_side = [side for sign in signs for side in (int(sign == 1), int(sign == -1))]
                self.assertEqual(signs_down(web, one_side), signs)
                self.assertEqual(shortage(above, over, one_side), shortage(web, box, signs))
        self.assertGreater(shown, 100)

    def test_great_webs(self):
        for web, box in great_boxes(49, 2, 500, 1500):
            above, over = cover_web(web), cover_box(web, box)
            self.assertEqual((above.points, len(above.ties)), (1000, 3000))
            self.assertEqual(above, cover_by_hand(web))
            self.assertEqual(over.totals[::2], box.totals)
        for web, box in great_boxes(50):
            numbers = whole_filling(cover_web(web), cover_box(web, box))
            self.assertIs(filling_holds(web, box, put_down(web, numbers)), True)

    def test_limits(self):
        wide, full = Web(501, [(0, 1)] * 1501), Web(500, [(499, 1)] * 1501)
        for web, word in ((wide, "points"), (full, "ties")):
            box = Box(web, [(0, 1)] * 1501, [0] * web.points)
            self.assertEqual(raised(cover_web, web), error(InvalidSize, word=word))
            self.assertEqual(raised(cover_box, web, box), error(InvalidSize, word=word))
            check_errors(self, cover_box, [web, box], [no_webs(), no_boxes(web)])
        self.assertEqual(len(cover_web(Web(500, [(499, 1)] * 1500)).ties), 3000)

    def test_errors(self):
        web = Web(2, [(0, 1, 1, 1), (0, 1)])
        box = Box(web, [(0, 1)] * 2, (0, 0))
        check_errors(self, cover_web, [web], [no_webs()])
        check_errors(self, cover_box, [web, box], [no_webs(), no_boxes(web)])
        check_errors(self, put_down, [web, (0,) * 4], [no_webs(), no_rows(InvalidRow, 4, 5, NO_INTEGERS)])
        check_errors(self, lifted, [web, (0,) * 2], [no_webs(), no_rows(InvalidRow, 2, 4, NO_INTEGERS + [1, -3])])
        check_errors(self, signs_down, [web, (0,) * 4], [no_webs(), no_rows(InvalidSigns, 4, 1, NO_INTEGERS + [-1, 2])])
        for row in NO_SEQUENCES:
            self.assertEqual(raised(put_down, Web(1, []), row), error(InvalidRow, at=-1))


if __name__ == "__main__":
    unittest.main()
