"""[16]: boxes."""

import random
import unittest

from pushtells.boxes import Box, box_times, box_widths, cut_box, is_within, moved_box, turned_box
from pushtells.errors import (InvalidBounds, InvalidBox, InvalidLot, InvalidSize, InvalidTie, InvalidTotals,
                              InvalidWeb)
from pushtells.webs import Web, turned
from tests.helpers import (MIXED, NO_INTEGERS, NO_SEQUENCES, NO_WEBS, PIPES, error, filled_box, pull_of, raised,
                           random_boxes)

WEB = Web(2, [(0, 1, 1, -1), (0, -1), (1, 1)])
BOX = Box(WEB, [(-5, 5), (0, 0), (2, 9)], (3, -4))
BIG = 10 ** 18


class BoxTest(unittest.TestCase):
    def test_attributes(self):
        box = Box(WEB, [[-BIG, BIG], (0, 0), [-3, -2]], [BIG, -BIG])
        self.assertEqual(vars(box), {"bounds": ((-BIG, BIG), (0, 0), (-3, -2)), "totals": (BIG, -BIG)})
        self.assertTrue(all(type(pair) is tuple for pair in box.bounds))
        self.assertEqual(vars(Box(Web(1, []), (), [0])), {"bounds": (), "totals": (0,)})

    def test_equality(self):
        self.assertTrue(BOX == Box(WEB, ((-5, 5), [0, 0], (2, 9)), [3, -4]))
        self.assertTrue(BOX == Box(turned(WEB, [0]), BOX.bounds, BOX.totals))
        for other in (Box(WEB, BOX.bounds, (3, 4)), Box(WEB, [(-5, 5), (0, 1), (2, 9)], (3, -4)), WEB, None, 3,
                      BOX.bounds, (BOX.bounds, BOX.totals)):
            self.assertFalse(BOX == other)
            self.assertTrue(BOX != other)

    def test_later_changes_do_nothing(self):
        bounds, totals = [[0, 1], [0, 1], [0, 1]], [1, 2]
        box = Box(WEB, bounds, totals)
        bounds[0][0] = totals[0] = 7
        bounds.pop()
        self.assertEqual(box, Box(WEB, [(0, 1)] * 3, (1, 2)))

    def test_wrong_values(self):
        for web in NO_WEBS:
            self.assertEqual(raised(Box, web, None, None), error(InvalidWeb, at=-1))
        for bounds in NO_SEQUENCES + [[], [(0, 1)] * 2, [(0, 1)] * 4, (None,) * 4]:
            self.assertEqual(raised(Box, WEB, bounds, None), error(InvalidBounds, at=-1))
        for pair in [(1, 0), (0,), (0, 1, 2), (), (True, 1), (0, True), (0, None), ("0", 1), "01", [[0], [1]], None, 0,
                     BOX] + NO_SEQUENCES:
            for at in range(3):
                bounds = [(0, 1)] * at + [pair] * (3 - at)
                self.assertEqual(raised(Box, WEB, bounds, None), error(InvalidBounds, at=at), pair)
        for totals in NO_SEQUENCES + [[], [0], [0, 0, 0], (None,) * 3]:
            self.assertEqual(raised(Box, WEB, BOX.bounds, totals), error(InvalidTotals, at=-1))
        for total in NO_INTEGERS:
            self.assertEqual(raised(Box, WEB, BOX.bounds, (total, None)), error(InvalidTotals, at=0))
            self.assertEqual(raised(Box, WEB, BOX.bounds, [0, total]), error(InvalidTotals, at=1))

    def test_wrong_boxes(self):
        more = (BOX, 0, 0, 0)
        calls = ((is_within, more[:1]), (cut_box, (None, None, None)), (turned_box, (None,)), (moved_box, (None, 1)),
                 (box_times, (None,)), (box_widths, ()))
        boxes = [None, 0, True, "box", (), WEB, (BOX.bounds, BOX.totals)]
        boxes += [Box(Web(3, WEB.ties), BOX.bounds, (0, 0, 0)), Box(Web(2, WEB.ties[:2]), [(0, 1)] * 2, (0, 0))]
        for call, rest in calls:
            for web in NO_WEBS:
                self.assertEqual(raised(call, web, None, *rest), error(InvalidWeb, at=-1))
            for box in boxes:
                self.assertEqual(raised(call, WEB, box, *rest), error(InvalidBox, at=-1), call)
        self.assertEqual(raised(is_within, WEB, BOX, None), error(InvalidBox, at=-1))
        self.assertEqual(raised(is_within, WEB, BOX, boxes[7]), error(InvalidBox, at=-1))

    def test_a_box_of_another_web_of_as_many(self):
        self.assertEqual(box_widths(WEB, Box(PIPES, [(0, 2)] * 3, (0, 0))), (2, 2, 2))


class MovesTest(unittest.TestCase):
    def test_within(self):
        self.assertIs(is_within(WEB, BOX, BOX), True)
        inner = Box(WEB, [(-5, -5), (0, 0), (3, 8)], (3, -4))
        self.assertIs(is_within(WEB, inner, BOX), True)
        self.assertIs(is_within(WEB, BOX, inner), False)
        for bounds, totals in (([(-6, 5), (0, 0), (2, 9)], (3, -4)), ([(-5, 6), (0, 0), (2, 9)], (3, -4)),
                               ([(-5, 5), (0, 0), (2, 10)], (3, -4)), (BOX.bounds, (3, 4)), (BOX.bounds, (2, -4))):
            self.assertIs(is_within(WEB, Box(WEB, bounds, totals), BOX), False)

    def test_cut(self):
        self.assertEqual(cut_box(WEB, BOX, 0, -9, 2).bounds, ((-5, 2), (0, 0), (2, 9)))
        self.assertEqual(cut_box(WEB, BOX, 2, 9, BIG), Box(WEB, [(-5, 5), (0, 0), (9, 9)], (3, -4)))
        self.assertEqual(cut_box(WEB, BOX, 1, -1, 1), BOX)
        self.assertIsNone(cut_box(WEB, BOX, 2, 10, 11))
        self.assertIsNone(cut_box(WEB, BOX, 2, 0, 1))
        for tie in NO_INTEGERS + [-1, 3]:
            self.assertEqual(raised(cut_box, WEB, BOX, tie, 1, 0), error(InvalidTie, at=-1))
            self.assertEqual(raised(moved_box, WEB, BOX, tie, 1), error(InvalidTie, at=-1))
        for value in NO_INTEGERS:
            self.assertEqual(raised(cut_box, WEB, BOX, 0, value, 3), error(InvalidBounds, at=-1))
            self.assertEqual(raised(cut_box, WEB, BOX, 0, -3, value), error(InvalidBounds, at=-1))
        self.assertEqual(raised(cut_box, WEB, BOX, 0, 1, 0), error(InvalidBounds, at=-1))

    def test_turned(self):
        self.assertEqual(turned_box(WEB, BOX, [1]), Box(WEB, BOX.bounds, (3, 4)))
        self.assertEqual(turned_box(WEB, BOX, (1, 0)), Box(WEB, BOX.bounds, (-3, 4)))
        self.assertEqual(turned_box(WEB, BOX, ()), BOX)
        for lot, at in ((None, -1), ([0, 0], 1), ((2,), 0), ([1, True], 1), ("0", -1)):
            self.assertEqual(raised(turned_box, WEB, BOX, lot), error(InvalidLot, at=at))

    def test_moved(self):
        self.assertEqual(moved_box(WEB, BOX, 0, 3), Box(WEB, [(-2, 8), (0, 0), (2, 9)], (6, -7)))
        self.assertEqual(moved_box(WEB, BOX, 1, 3), Box(WEB, [(-5, 5), (3, 3), (2, 9)], (0, -4)))
        self.assertEqual(moved_box(WEB, BOX, 2, -10 ** 25).totals, (3, -4 - 10 ** 25))

    def test_times(self):
        self.assertEqual(box_times(WEB, BOX, 1), BOX)
        self.assertEqual(box_times(WEB, BOX, 10 ** 6).totals, (3 * 10 ** 6, -4 * 10 ** 6))
        self.assertEqual(box_times(WEB, BOX, 3).bounds, ((-15, 15), (0, 0), (6, 27)))
        for many in NO_INTEGERS + [0, -1]:
            self.assertEqual(raised(box_times, WEB, BOX, many), error(InvalidSize, word="many"))

    def test_widths(self):
        self.assertEqual(box_widths(WEB, BOX), (10, 0, 7))
        self.assertEqual(box_widths(MIXED, filled_box(random.Random(1), MIXED, 0)), (0,) * 8)

    def test_moves_keep_what_fills(self):
        """Numbers that come to the totals do so behind each move, moved alike."""
        for web, box in random_boxes(10, 60, 4, 5, 3):
            middle = [least for least, _ in box.bounds]
            off = [sum(pull_of(tie, [int(at == point) for at in range(web.points)]) * x
                       for tie, x in zip(web.ties, middle)) - total for point, total in enumerate(box.totals)]
            other = box
            for tie in range(len(web.ties)):
                other = moved_box(web, other, tie, tie - 2)
            points = list(range(0, web.points, 2))
            web2, other = turned(web, points), turned_box(web, other, points)
            again = [least for least, _ in other.bounds]
            self.assertEqual(again, [x + at - 2 for at, x in enumerate(middle)])
            for point, total in enumerate(other.totals):
                signs = [int(at == point) for at in range(web.points)]
                told = sum(pull_of(tie, signs) * x for tie, x in zip(web2.ties, again)) - total
                self.assertEqual(told, -off[point] if point in points else off[point])


if __name__ == "__main__":
    unittest.main()
