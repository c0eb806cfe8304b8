"""[17], [18], [19]: looks, the end, rounds."""

import itertools
import random
import unittest

from pushtells.boxes import Box, box_times, box_widths, cut_box, is_within, moved_box, turned_box
from pushtells.errors import InvalidBox, InvalidPoint, InvalidWeb
from pushtells.tighten import is_still, left_at, looked_along, looked_at, round_box, rounds, tightened
from pushtells.webs import Web, point_ties, turned
from tests.helpers import (MIXED, NO_INTEGERS, NO_SEQUENCES, NO_WEBS, PIPES, TRIANGLE, doubles, error, filled_box,
                           raised, random_box, random_boxes, random_web)

BIG = 10 ** 18
OTHER = Web(2, [(0, 1, 1, 1), (0, 1), (1, -1)])
RING = Web(3, [(0, 1, 1, -1), (1, 1, 2, -1), (2, 1, 0, -1)])
OTHER_BOX = Box(OTHER, [(0, 9), (0, 2), (0, 3)], (5, 4))


def sign_there(web, tie, point):
    told = web.ties[tie]
    return told[1] if told[0] == point else told[3]


def left_by_trying(web, box, point):
    """What each tie has in some numbers of the others: least and greatest of all that are met."""
    ties = point_ties(web, point)
    rows = []
    for tie in ties:
        others = [other for other in ties if other != tie]
        met = []
        for row in itertools.product(*[range(box.bounds[x][0], box.bounds[x][1] + 1) for x in others]):
            rest = box.totals[point] - sum(sign_there(web, x, point) * y for x, y in zip(others, row))
            met.append(sign_there(web, tie, point) * rest)
        rows.append((tie, min(met), max(met)))
        assert sorted(set(met)) == list(range(min(met), max(met) + 1))
    return tuple(rows)


def ends_in_any_order(web, box, rng):
    """The end by looks in any order, till none moves anything; None if one leaves nothing."""
    while True:
        points = list(range(web.points))
        rng.shuffle(points)
        before = box
        for point in points:
            box = looked_at(web, box, point)
            if box is None:
                return None
        if box == before:
            return box


def round_by_hand(web, box):
    """All looks at once: what each leaves, cut together."""
    bounds = [list(pair) for pair in box.bounds]
    for point in range(web.points):
        if not point_ties(web, point) and box.totals[point] != 0:
            return None
        for tie, least, greatest in left_at(web, box, point):
            bounds[tie] = [max(least, bounds[tie][0]), min(greatest, bounds[tie][1])]
    return Box(web, bounds, box.totals) if all(low <= high for low, high in bounds) else None


def rounds_by_hand(web, box):
    most = 2 * len(doubles(web)) + 2
    for many in range(most):
        behind = round_by_hand(web, box)
        if behind is None:
            return "nothing", many + 1
        if behind == box:
            return "still", many, box
        box = behind
    return "nothing", most


class LooksTest(unittest.TestCase):
    def test_by_hand(self):
        self.assertEqual(left_at(OTHER, OTHER_BOX, 0), ((0, 3, 5), (1, -4, 5)))
        self.assertEqual(left_at(OTHER, OTHER_BOX, 1), ((0, 4, 7), (2, -4, 5)))
        self.assertEqual(looked_at(OTHER, OTHER_BOX, 0).bounds, ((3, 5), (0, 2), (0, 3)))
        self.assertEqual(left_at(MIXED, Box(MIXED, [(0, 1)] * 8, [0] * 7), 5), ())

    def test_one_tie_and_none(self):
        web = Web(2, [(0, -1)])
        box = Box(web, [(-5, 5)], (3, 0))
        self.assertEqual(left_at(web, box, 0), ((0, -3, -3),))
        self.assertEqual(looked_at(web, box, 0).bounds, ((-3, -3),))
        self.assertEqual(looked_at(web, box, 1), box)
        self.assertIsNone(looked_at(web, Box(web, [(-5, 5)], (3, 1)), 1))
        self.assertIsNone(looked_at(web, Box(web, [(-5, 5)], (9, 0)), 0))
        self.assertIs(is_still(web, Box(web, [(-3, -3)], (3, 0))), True)
        self.assertIs(is_still(web, Box(web, [(-3, -3)], (3, 1))), False)
        self.assertIs(is_still(web, box), False)

    def test_what_is_left_by_trying(self):
        for web, box in random_boxes(60, 120, 3, 5, 2):
            for point in range(web.points):
                told = left_at(web, box, point)
                self.assertEqual(told, left_by_trying(web, box, point))
                behind = looked_at(web, box, point)
                cut = list(box.bounds)
                for tie, least, greatest in told:
                    cut[tie] = (max(least, cut[tie][0]), min(greatest, cut[tie][1]))
                if any(low > high for low, high in cut) or (not told and box.totals[point] != 0):
                    self.assertIsNone(behind)
                else:
                    self.assertEqual(behind, Box(web, cut, box.totals))
                    self.assertEqual(looked_at(web, behind, point), behind)
                    self.assertEqual(self.tie_by_tie(web, box, point), behind)

    def tie_by_tie(self, web, box, point):
        """Cut by cut, each by the others as they stand then, last tie first."""
        for tie in point_ties(web, point)[::-1]:
            for number, least, greatest in left_at(web, box, point):
                if number == tie:
                    box = cut_box(web, box, tie, least, greatest)
        return box

    def test_along(self):
        self.assertEqual(looked_along(OTHER, OTHER_BOX, ()), ("box", OTHER_BOX))
        word, behind = looked_along(OTHER, OTHER_BOX, [0, 1, 0])
        self.assertEqual((word, behind.bounds), ("box", ((4, 5), (0, 1), (0, 1))))
        self.assertEqual(looked_along(OTHER, OTHER_BOX, (1,) * 400)[0], "box")
        gone = Box(OTHER, [(0, 9), (0, 2), (0, 3)], (5, 6))
        self.assertEqual(looked_along(OTHER, gone, (0, 0, 1, 0)), ("nothing", 2))
        self.assertEqual(looked_along(OTHER, gone, (0, 0)), ("box", looked_at(OTHER, gone, 0)))
        for web, box in random_boxes(61, 60, 4, 6, 3):
            row = [random.Random(3).randrange(web.points) for _ in range(6)]
            told = looked_along(web, box, row)
            for at, point in enumerate(row):
                box = looked_at(web, box, point)
                if box is None:
                    break
            self.assertEqual(told, ("nothing", at) if box is None else ("box", box))

    def test_errors(self):
        for web in NO_WEBS:
            for call, rest in ((left_at, (None,)), (looked_at, (None,)), (looked_along, (None,)), (is_still, ()),
                               (tightened, ()), (round_box, ()), (rounds, ())):
                self.assertEqual(raised(call, web, None, *rest), error(InvalidWeb, at=-1))
                for box in (None, 0, web, OTHER_BOX, (((0, 1),) * 8, (0,) * 7)):
                    self.assertEqual(raised(call, MIXED, box, *rest), error(InvalidBox, at=-1))
        for point in NO_INTEGERS + [-1, 2, 10 ** 30]:
            self.assertEqual(raised(left_at, OTHER, OTHER_BOX, point), error(InvalidPoint, at=-1))
            self.assertEqual(raised(looked_at, OTHER, OTHER_BOX, point), error(InvalidPoint, at=-1))
            self.assertEqual(raised(looked_along, OTHER, OTHER_BOX, [0, point, None]), error(InvalidPoint, at=1))
        for points in NO_SEQUENCES + [[0] * 401, (None,) * 401]:
            self.assertEqual(raised(looked_along, OTHER, OTHER_BOX, points), error(InvalidPoint, at=-1))
        gone = Box(OTHER, [(0, 9), (0, 2), (0, 3)], (99, 6))
        self.assertEqual(raised(looked_along, OTHER, gone, [0, 1, 2]), error(InvalidPoint, at=2))

    def test_still_by_widths(self):
        seen = {True: 0, False: 0}
        for web, box in random_boxes(62, 200, 3, 5, 3):
            for told in (box, tightened(web, box)):
                if told is None:
                    continue
                still = all(looked_at(web, told, point) == told for point in range(web.points))
                self.assertIs(is_still(web, told), still)
                self.assertEqual(still, all(self.is_calm(web, told, point) for point in range(web.points)))
                seen[still] += 1
        self.assertTrue(min(seen.values()) > 50, seen)

    def is_calm(self, web, box, point):
        """The sum of widths, less twice the greatest, is no less than the total is off the middles, twice."""
        ties = point_ties(web, point)
        if not ties:
            return box.totals[point] == 0
        widths = [box_widths(web, box)[tie] for tie in ties]
        off = 2 * box.totals[point] - sum(sign_there(web, tie, point) * sum(box.bounds[tie]) for tie in ties)
        return abs(off) <= sum(widths) - 2 * max(widths)

    def test_great_numbers(self):
        web = Web(1, [(0, 1)] * 359 + [(0, -1)])
        box = Box(web, [(-BIG, BIG)] * 360, (10 ** 21,))
        self.assertIsNone(looked_at(web, box, 0))
        box = Box(web, [(-BIG, BIG)] * 360, (360 * BIG - 1,))
        self.assertEqual(looked_at(web, box, 0).bounds, ((BIG - 1, BIG),) * 359 + ((-BIG, 1 - BIG),))


class EndTest(unittest.TestCase):
    def test_by_hand(self):
        self.assertEqual(tightened(OTHER, OTHER_BOX).bounds, ((4, 5), (0, 1), (0, 1)))
        self.assertIsNone(tightened(RING, Box(RING, [(-BIG, BIG)] * 3, (0, 0, 1))))
        calm = Box(PIPES, [(0, 2)] * 3, (4, -2))
        self.assertEqual(tightened(PIPES, calm), calm)
        bare = Web(2, [(0, 1)])
        self.assertIsNone(tightened(bare, Box(bare, [(0, 1)], (0, 1))))
        self.assertEqual(tightened(bare, Box(bare, [(0, 1)], (0, 0))).bounds, ((0, 0),))
        self.assertIsNone(tightened(Web(1, []), Box(Web(1, []), [], (-1,))))

    def test_whatever_the_order(self):
        rng = random.Random(63)
        seen = [0, 0]
        for web, box in random_boxes(64, 200, 5, 8, 4):
            end = tightened(web, box)
            seen[end is None] += 1
            for _ in range(3):
                self.assertEqual(ends_in_any_order(web, box, rng), end)
            if end is not None:
                self.assertTrue(is_still(web, end) and is_within(web, end, box))
                self.assertEqual(tightened(web, end), end)
        self.assertTrue(min(seen) > 20, seen)

    def test_the_greatest_still_box_within(self):
        """Every still box within lies within the end: all boxes within tried."""
        rng = random.Random(65)
        for _ in range(60):
            web = random_web(rng, rng.randint(1, 3), rng.randint(1, 3))
            box = (filled_box if rng.random() < 0.7 else random_box)(rng, web, 2)
            end = tightened(web, box)
            cuts = [[(low, high) for low in range(least, most + 1) for high in range(low, most + 1)]
                    for least, most in box.bounds]
            still = [inner for inner in (Box(web, row, box.totals) for row in itertools.product(*cuts))
                     if is_still(web, inner)]
            self.assertEqual(end is None, not still)
            self.assertTrue(all(is_within(web, inner, end) for inner in still))
            self.assertTrue(end is None or end in still)

    def test_it_moves_with_the_moves(self):
        rng = random.Random(66)
        for web, box in random_boxes(67, 120, 5, 7, 5):
            end = tightened(web, box)
            points = rng.sample(range(web.points), rng.randint(0, web.points))
            told = [(tightened(turned(web, points), turned_box(web, box, points)),
                     end and turned_box(web, end, points)),
                    (tightened(web, box_times(web, box, 7)), end and box_times(web, end, 7))]
            for tie in range(len(web.ties)):
                told.append((tightened(web, moved_box(web, box, tie, -3)), end and moved_box(web, end, tie, -3)))
                middle = sum(box.bounds[tie]) // 2
                inner = cut_box(web, box, tie, box.bounds[tie][0], middle)
                cut = cut_box(web, end, tie, box.bounds[tie][0], middle) if end else None
                told.append((tightened(web, inner), tightened(web, cut) if cut else None))
            for one, other in told:
                self.assertEqual(one, other)

    def test_fillings_stay(self):
        rng = random.Random(68)
        for _ in range(60):
            web = random_web(rng, rng.randint(1, 6), rng.randint(0, 9))
            numbers = [rng.randint(-9, 9) for _ in web.ties]
            totals = [sum(sign_there(web, tie, point) * numbers[tie] for tie in point_ties(web, point))
                      for point in range(web.points)]
            box = Box(web, [(x - rng.randint(0, 4), x + rng.randint(0, 4)) for x in numbers], totals)
            end = tightened(web, box)
            self.assertTrue(is_within(web, Box(web, [(x, x) for x in numbers], totals), end))


class RoundsTest(unittest.TestCase):
    def test_by_hand(self):
        self.assertEqual(rounds(RING, Box(RING, [(-BIG, BIG)] * 3, (0, 0, 1))), ("nothing", 8))
        self.assertEqual(rounds(OTHER, OTHER_BOX)[:2], ("still", 2))
        self.assertEqual(round_box(OTHER, OTHER_BOX).bounds, ((4, 5), (0, 2), (0, 3)))
        bare = Web(2, [(0, 1)])
        self.assertEqual(rounds(bare, Box(bare, [(0, 1)], (0, 1))), ("nothing", 1))
        self.assertIsNone(round_box(bare, Box(bare, [(0, 1)], (0, 1))))
        self.assertEqual(rounds(bare, Box(bare, [(0, 0)], (0, 0))), ("still", 0, Box(bare, [(0, 0)], (0, 0))))
        self.assertEqual(rounds(bare, Box(bare, [(0, 1)], (3, 0))), ("nothing", 1))
        self.assertEqual(rounds(Web(1, []), Box(Web(1, []), [], (0,))), ("still", 0, Box(Web(1, []), [], (0,))))

    def test_small_boxes(self):
        for web, box in random_boxes(69, 250, 6, 9, 6):
            self.assertEqual(round_box(web, box), round_by_hand(web, box))
            told = rounds(web, box)
            self.assertEqual(told, rounds_by_hand(web, box))
            self.assertEqual(tightened(web, box), told[2] if told[0] == "still" else None)

    def test_rings_that_do_not_close(self):
        """2 t2 + 2 rounds by, and narrow bounds that meet ahead of it."""
        for many in range(2, 9):
            for wide in (1, 2, 10, 10 ** 18):
                web = Web(many, [(at, 1, (at + 1) % many, -1) for at in range(many)])
                box = Box(web, [(-wide, wide)] * many, [0] * (many - 1) + [1])
                told = rounds(web, box)
                self.assertEqual(told, rounds_by_hand(web, box))
                self.assertIsNone(tightened(web, box))
                if wide == 10 ** 18:
                    self.assertEqual(told, ("nothing", 2 * many + 2))

    def test_most_rounds_of_boxes_with_an_end(self):
        most = 0
        for web, box in random_boxes(70, 600, 6, 7, 20, 0.1):
            told = rounds(web, box)
            if told[0] == "still":
                self.assertLessEqual(told[1], 2 * len(doubles(web)) + 1)
                most = max(most, told[1])
        self.assertGreater(most, 3)

    def test_odd_rings_meet_soon(self):
        web = Web(3, [(0, 1, 1, 1), (1, 1, 2, 1), (2, 1, 0, 1)])
        box = Box(web, [(-BIG, BIG)] * 3, (1, 1, 1))
        self.assertEqual(rounds(web, box)[:2], ("still", 1))
        self.assertEqual(rounds(TRIANGLE, Box(TRIANGLE, [(0, 1)] * 3, (1, 1, 2)))[0], "still")

    def test_long_paths(self):
        """One end that goes from point to point, to the last one."""
        many = 149
        web = Web(150, [(at, 1, at + 1, -1) for at in range(many)] + [(0, -1), (149, 1)])
        box = Box(web, [(-BIG, BIG)] * many + [(5, 5), (-BIG, BIG)], [0] * 150)
        word, told, end = rounds(web, box)
        self.assertEqual((word, told), ("still", 150))
        self.assertEqual(end.bounds, ((5, 5),) * 151)

    def test_great_webs(self):
        rng = random.Random(71)
        for many, loose in ((360, 0.2), (200, 0.1), (360, 0)):
            web = random_web(rng, 150, many, loose)
            for box in (filled_box(rng, web, BIG), random_box(rng, web, BIG)):
                told = rounds(web, box)
                self.assertEqual(tightened(web, box), told[2] if told[0] == "still" else None)
        ties = [(at, 1, (at + 1) % 150, -1) for at in range(150)] + [(at, 1) for at in range(150)]
        web = Web(150, ties + [(at, -1) for at in range(60)])
        box = Box(web, [(-BIG, BIG)] * 150 + [(0, 0)] * 210, [0] * 149 + [1])
        self.assertEqual(rounds(web, box), ("nothing", 302))
        self.assertIsNone(tightened(web, box))


if __name__ == "__main__":
    unittest.main()
