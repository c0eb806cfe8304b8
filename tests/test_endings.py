"""[21], [22]: papers of ends, and of boxes of which nothing is left."""

import random
import unittest

from pushtells.boxes import Box, is_within
from pushtells.endings import bound_holds, bound_paper, end_holds, end_paper, nothing_holds, nothing_paper
from pushtells.errors import InvalidBox, InvalidSide, InvalidTie, InvalidWeb, Refused
from pushtells.tighten import is_still, rounds, tightened
from pushtells.webs import Web
from tests.helpers import (JUNK, MIXED, NO_INTEGERS, NO_WEBS, PIPES, TRIANGLE, error, filled_box, raised, random_box,
                           random_boxes, random_web, spoiled, spoiled_sample)

BIG = 10 ** 18
OTHER = Web(2, [(0, 1, 1, 1), (0, 1), (1, -1)])
OTHER_BOX = Box(OTHER, [(0, 9), (0, 2), (0, 3)], (5, 4))
RING = Web(3, [(0, 1, 1, -1), (1, 1, 2, -1), (2, 1, 0, -1)])
RING_BOX = Box(RING, [(-BIG, BIG)] * 3, (0, 0, 1))


def whole(*values):
    return all(type(value) is int for value in values)


def looks_by_hand(web, looks):
    """Whether it is weighed looks, by the words of [21]."""
    if type(looks) is not tuple:
        return False
    for look in looks:
        if type(look) is not tuple or len(look) != 4 or not whole(*look):
            return False
        point, direction, tie, weight = look
        if direction not in (1, -1) or weight < 1 or not 0 <= point < web.points or not 0 <= tie < len(web.ties):
            return False
        if point not in web.ties[tie][::2]:
            return False
    return all(one[:3] < other[:3] for one, other in zip(looks, looks[1:]))


def sum_by_hand(web, box, looks, asked):
    """Worths times weights and upper numbers times how often they are given, or None."""
    told = 0
    balance = dict(asked)
    for point, direction, tie, weight in looks:
        told += direction * box.totals[point] * weight
        for other, each in enumerate(web.ties):
            for at in range(0, len(each), 2):
                if each[at] == point:
                    side = direction * each[at + 1] * (1 if other == tie else -1)
                    balance[other, side] = balance.get((other, side), 0) + (-weight if other == tie else weight)
    if min([0] + list(balance.values())) < 0:
        return None
    for (tie, side), often in balance.items():
        told += often * (box.bounds[tie][1] if side == 1 else -box.bounds[tie][0])
    return told


def bound_by_hand(web, box, tie, side, value):
    if type(value) is not tuple or len(value) != 2 or not whole(value[0]) or not looks_by_hand(web, value[1]):
        return False
    told = sum_by_hand(web, box, value[1], {(tie, side): 1})
    return told is not None and told == value[0] * side


def nothing_by_hand(web, box, value):
    if type(value) is not tuple or len(value) != 2:
        return False
    if type(value[0]) is str:
        at = value[1]
        return value[0] == "bare" and whole(at) and 0 <= at < web.points and box.totals[at] != 0 and not any(
            at in tie[::2] for tie in web.ties)
    if not looks_by_hand(web, value[0]) or type(value[1]) is not tuple:
        return False
    asked = {}
    for pair in value[1]:
        if type(pair) is not tuple or len(pair) != 2 or not whole(*pair) or pair[1] < 1:
            return False
        if not 0 <= pair[0] < len(web.ties) or any(pair[0] <= tie for tie, _ in asked):
            return False
        asked.update({(pair[0], 1): pair[1], (pair[0], -1): pair[1]})
    told = sum_by_hand(web, box, value[0], asked)
    return told is not None and told < 0


def end_by_hand(web, box, value):
    if type(value) is not tuple or not value or type(value[0]) is not str:
        return False
    if value[0] == "nothing":
        return len(value) == 2 and nothing_by_hand(web, box, value[1])
    if value[0] != "end" or len(value) != 3 or any(type(x) is not tuple or len(x) != len(web.ties) for x in value[1:]):
        return False
    for pair in value[1] + value[2]:
        if type(pair) is not tuple or len(pair) != 2:
            return False
    if not all(whole(*pair) and pair[0] <= pair[1] for pair in value[1]):
        return False
    end = Box(web, value[1], box.totals)
    told = all(bound_by_hand(web, box, tie, 1, (pair[1], looks[0])) and
               bound_by_hand(web, box, tie, -1, (pair[0], looks[1]))
               for tie, (pair, looks) in enumerate(zip(value[1], value[2])))
    return told and is_still(web, end) and is_within(web, end, box)


def unclosed(many, wide, off=1):
    """An even ring that does not close."""
    web = Web(many, [(at, 1, (at + 1) % many, -1) for at in range(many)])
    return web, Box(web, [(-wide, wide)] * many, [0] * (many - 1) + [off])


class BoundTest(unittest.TestCase):
    def test_by_hand(self):
        self.assertEqual(bound_paper(OTHER, OTHER_BOX, 0, 1)[0], 5)
        self.assertEqual(bound_paper(OTHER, OTHER_BOX, 0, -1)[0], 4)
        held = (1, ((0, 1, 1, 1), (1, -1, 0, 1)))
        self.assertIs(bound_holds(OTHER, OTHER_BOX, 1, 1, held), True)
        self.assertIs(bound_holds(OTHER, OTHER_BOX, 1, 1, (2, ())), True)
        self.assertIs(bound_holds(OTHER, OTHER_BOX, 1, 1, (1, ())), False)
        self.assertIs(bound_holds(OTHER, OTHER_BOX, 1, -1, (0, ())), True)
        self.assertIs(bound_holds(OTHER, OTHER_BOX, 0, 1, (5, ((0, 1, 0, 1),))), True)
        # Twice claimed, but asked once: given less than never.
        self.assertIs(bound_holds(OTHER, OTHER_BOX, 0, 1, (1, ((0, 1, 0, 2),))), False)
        for looks in (((0, 1, 0, True),), ((0, 1, 0, 0),), ((0, 1, 0),), ((False, 1, 0, 1),), ((0, True, 0, 1),),
                      ((0, 1, 2, 1),), ((2, 1, 0, 1),), [(0, 1, 0, 1)], ([0, 1, 0, 1],), ((0, 2, 0, 1),), None):
            self.assertIs(bound_holds(OTHER, OTHER_BOX, 0, 1, (5, looks)), False)

    def test_each_bound_of_each_end(self):
        seen = 0
        for web, box in random_boxes(90, 200, 5, 7, 5):
            end = tightened(web, box)
            for tie in range(len(web.ties)):
                for side in (1, -1):
                    told = raised(bound_paper, web, box, tie, side)
                    if end is None:
                        self.assertEqual(told, error(Refused, at=-1))
                        continue
                    seen += len(told[1])
                    self.assertEqual(told[0], end.bounds[tie][1 if side == 1 else 0])
                    self.assertTrue(bound_by_hand(web, box, tie, side, told))
                    self.assertIs(bound_holds(web, box, tie, side, told), True)
        self.assertGreater(seen, 300)

    def test_spoiled_papers(self):
        rng = random.Random(91)
        for seed, (web, box) in enumerate(random_boxes(92, 60, 4, 6, 5)):
            if web.ties and tightened(web, box) is not None:
                tie, side = rng.randrange(len(web.ties)), rng.choice((1, -1))
                paper = bound_paper(web, box, tie, side)
                for value in spoiled_sample(paper, seed, 150):
                    told = bound_by_hand(web, box, tie, side, value)
                    self.assertIs(bound_holds(web, box, tie, side, value), told, value)

    def test_what_holds_bounds_each_still_box_within(self):
        """Any looks that hold tell a number that is no less than the end's."""
        rng = random.Random(93)
        held = 0
        for web, box in random_boxes(94, 150, 3, 4, 4):
            end = tightened(web, box)
            for _ in range(40 if web.ties and end is not None else 0):
                tie, side = rng.randrange(len(web.ties)), rng.choice((1, -1))
                looks = {}
                for _ in range(rng.randint(0, 3)):
                    other = rng.randrange(len(web.ties))
                    looks[rng.choice(web.ties[other][::2]), rng.choice((1, -1)), other] = rng.randint(1, 2)
                row = tuple(sorted(key + (weight,) for key, weight in looks.items()))
                told = sum_by_hand(web, box, row, {(tie, side): 1})
                if told is not None:
                    held += 1
                    self.assertIs(bound_holds(web, box, tie, side, (told * side, row)), True)
                    self.assertIs(bound_holds(web, box, tie, side, (told * side + 1, row)), False)
                    self.assertGreaterEqual(told, side * end.bounds[tie][1 if side == 1 else 0])
                else:
                    self.assertIs(bound_holds(web, box, tie, side, (side * end.bounds[tie][0], row)), False)
        self.assertGreater(held, 500)

    def test_errors(self):
        for web in NO_WEBS:
            self.assertEqual(raised(bound_paper, web, None, None, None), error(InvalidWeb, at=-1))
            self.assertEqual(raised(bound_holds, web, None, None, None, None), error(InvalidWeb, at=-1))
            self.assertEqual(raised(nothing_paper, web, None), error(InvalidWeb, at=-1))
            self.assertEqual(raised(end_holds, web, None, None), error(InvalidWeb, at=-1))
        for box in (None, 0, OTHER, OTHER_BOX):
            self.assertEqual(raised(bound_paper, MIXED, box, None, None), error(InvalidBox, at=-1))
            self.assertEqual(raised(bound_holds, MIXED, box, None, None, None), error(InvalidBox, at=-1))
            for call in (nothing_paper, end_paper):
                self.assertEqual(raised(call, MIXED, box), error(InvalidBox, at=-1))
            for call in (nothing_holds, end_holds):
                self.assertEqual(raised(call, MIXED, box, None), error(InvalidBox, at=-1))
        for tie in NO_INTEGERS + [-1, 3]:
            self.assertEqual(raised(bound_paper, RING, RING_BOX, tie, None), error(InvalidTie, at=-1))
            self.assertEqual(raised(bound_holds, RING, RING_BOX, tie, None, None), error(InvalidTie, at=-1))
        for side in NO_INTEGERS + [0, 2, -2]:
            self.assertEqual(raised(bound_paper, RING, RING_BOX, 2, side), error(InvalidSide, at=-1))
            self.assertEqual(raised(bound_holds, RING, RING_BOX, 2, side, None), error(InvalidSide, at=-1))
        self.assertEqual(raised(bound_paper, RING, RING_BOX, 0, 1), error(Refused, at=-1))
        self.assertIs(bound_holds(RING, RING_BOX, 0, 1, (BIG, ())), True)

    def test_any_values(self):
        for web, box in ((RING, RING_BOX), (OTHER, OTHER_BOX), (TRIANGLE, Box(TRIANGLE, [(0, 1)] * 3, (1, 1, 1)))):
            for value in JUNK:
                self.assertIs(bound_holds(web, box, 0, 1, value), False)
                self.assertIs(nothing_holds(web, box, value), False)
                self.assertIs(end_holds(web, box, value), False)


class NothingTest(unittest.TestCase):
    def test_bare_points(self):
        web = Web(3, [(0, 1)])
        box = Box(web, [(0, 1)], (1, 0, -2))
        self.assertEqual(nothing_paper(web, box), ("bare", 2))
        for value, holds in ((("bare", 2), True), (("bare", 1), False), (("bare", 0), False), (("bare", 3), False),
                             (("bare", True), False), (("bare", -1), False), (["bare", 2], False), (("bare",), False)):
            self.assertIs(nothing_holds(web, box, value), holds)
        self.assertEqual(end_paper(web, box), ("nothing", ("bare", 2)))
        self.assertIsNone(nothing_paper(web, Box(web, [(0, 1)], (1, 0, 0))))

    def test_just_one_is_there(self):
        seen = [0, 0]
        for web, box in random_boxes(95, 250, 5, 7, 4):
            paper = nothing_paper(web, box)
            end = tightened(web, box)
            seen[end is None] += 1
            self.assertEqual(paper is None, end is not None)
            self.assertIs(nothing_holds(web, box, paper), paper is not None)
            self.assertEqual(nothing_by_hand(web, box, paper), paper is not None)
        self.assertTrue(min(seen) > 40, seen)

    def test_spoiled_papers(self):
        seed = 0
        for web, box in random_boxes(96, 120, 4, 6, 4) + [unclosed(many, BIG) for many in (2, 3, 4)]:
            paper = nothing_paper(web, box)
            if paper is not None:
                seed += 1
                for value in spoiled_sample(paper, seed, 120):
                    self.assertIs(nothing_holds(web, box, value), nothing_by_hand(web, box, value), value)

    def test_no_paper_where_something_is_left(self):
        rng = random.Random(97)
        for web, box in random_boxes(98, 100, 3, 4, 3):
            if tightened(web, box) is None:
                continue
            for _ in range(30 if web.ties else 0):
                looks = {}
                for _ in range(rng.randint(0, 3)):
                    other = rng.randrange(len(web.ties))
                    looks[rng.choice(web.ties[other][::2]), rng.choice((1, -1)), other] = rng.randint(1, 2)
                row = tuple(sorted(key + (weight,) for key, weight in looks.items()))
                widths = tuple((tie, 1) for tie in range(len(web.ties)) if rng.random() < 0.4)
                self.assertIs(nothing_holds(web, box, (row, widths)), False)

    def test_rings_that_do_not_close(self):
        for many in range(2, 25):
            for wide, off in ((BIG, 1), (BIG, -7), (3, 1), (1, 2), (0, 1)):
                web, box = unclosed(many, wide, off)
                paper = nothing_paper(web, box)
                self.assertIs(nothing_holds(web, box, paper), True)
                self.assertIs(end_holds(web, box, end_paper(web, box)), True)
                if wide == BIG:
                    self.assertEqual((rounds(web, box)[1], paper[1]), (2 * many + 2, ()))

    def test_rings_with_much_hung_on_them(self):
        """Rounds without end that others start, and other ends that move meanwhile."""
        rng = random.Random(99)
        endless = 0
        for _ in range(150):
            many = rng.randint(2, 5)
            ties = [(at, 1, (at + 1) % many, -1) for at in range(many)]
            ties += [(rng.randrange(many), rng.choice((1, -1))) for _ in range(rng.randint(0, 4))]
            points = many
            for _ in range(rng.randint(0, 4)):
                ties.append((rng.randrange(points), rng.choice((1, -1)), points, rng.choice((1, -1))))
                points += 1
            for _ in range(rng.randint(0, 2)):
                one, other = rng.sample(range(points), 2)
                ties.append((one, rng.choice((1, -1)), other, rng.choice((1, -1))))
            rng.shuffle(ties)
            web = Web(points, ties)
            bounds = [rng.choice(((-BIG, BIG), (0, 1), (-5, 5), (0, 0))) if len(tie) == 2 else (-BIG, BIG)
                      for tie in web.ties]
            box = Box(web, bounds, [rng.randint(-9, 9) for _ in range(points)])
            told = rounds(web, box)
            endless += told[1] == 2 * len([tie for tie in ties if len(tie) == 4]) + 2
            self.assertIs(end_holds(web, box, end_paper(web, box)), True)
        self.assertGreater(endless, 20)


class EndTest(unittest.TestCase):
    def test_by_hand(self):
        word, bounds, papers = end_paper(OTHER, OTHER_BOX)
        self.assertEqual((word, bounds, len(papers)), ("end", ((4, 5), (0, 1), (0, 1)), 3))
        self.assertIs(end_holds(OTHER, OTHER_BOX, (word, bounds, papers)), True)
        self.assertIs(end_holds(OTHER, OTHER_BOX, (word, list(bounds), papers)), False)
        self.assertIs(end_holds(OTHER, OTHER_BOX, (word, tuple([list(pair) for pair in bounds]), papers)), False)
        self.assertIs(end_holds(OTHER, OTHER_BOX, (word, OTHER_BOX.bounds, (((), ()),) * 3)), False)
        empty = Web(2, [])
        self.assertEqual(end_paper(empty, Box(empty, [], (0, 0))), ("end", (), ()))
        self.assertIs(end_holds(empty, Box(empty, [], (0, 0)), ("end", (), ())), True)
        self.assertIs(end_holds(empty, Box(empty, [], (0, 1)), ("end", (), ())), False)
        self.assertIs(end_holds(RING, RING_BOX, ("nothing", nothing_paper(RING, RING_BOX))), True)
        self.assertIs(end_holds(OTHER, OTHER_BOX, ("nothing", None)), False)

    def test_ends_of_small_boxes(self):
        for web, box in random_boxes(100, 200, 5, 7, 5):
            paper = end_paper(web, box)
            end = tightened(web, box)
            self.assertEqual(paper[:2] if end else paper[0], ("end", end.bounds) if end else "nothing")
            self.assertIs(end_holds(web, box, paper), True)
            self.assertTrue(end_by_hand(web, box, paper))

    def test_spoiled_papers(self):
        for seed, (web, box) in enumerate(random_boxes(101, 80, 4, 5, 4)):
            paper = end_paper(web, box)
            for value in spoiled_sample(paper, seed, 100):
                self.assertIs(end_holds(web, box, value), end_by_hand(web, box, value), value)

    def test_told_still_boxes_that_are_not_within(self):
        web = Web(1, [(0, 1), (0, 1)])
        box = Box(web, [(0, 3), (0, 3)], (4,))
        told = ((((0, 1, 0, 1),), ((0, -1, 0, 1),)), ((), ()))
        self.assertIs(is_still(web, Box(web, [(1, 4), (0, 3)], (4,))), True)
        for tie, side, number, looks in ((0, 1, 4, told[0][0]), (0, -1, 1, told[0][1]), (1, 1, 3, ()), (1, -1, 0, ())):
            self.assertIs(bound_holds(web, box, tie, side, (number, looks)), True)
        self.assertIs(end_holds(web, box, ("end", ((1, 4), (0, 3)), told)), False)
        self.assertIs(end_holds(web, box, end_paper(web, box)), True)

    def test_still_boxes_that_are_not_the_end(self):
        """A lesser still box within: no looks tell its bounds."""
        box = Box(PIPES, [(0, 2)] * 3, (3, -3))
        lesser = ((1, 1),) * 3
        self.assertIs(is_still(PIPES, Box(PIPES, lesser, (3, -3))), True)
        papers = end_paper(PIPES, box)[2]
        self.assertIs(end_holds(PIPES, box, ("end", lesser, papers)), False)
        self.assertIs(end_holds(PIPES, box, ("end", lesser, (((), ()),) * 3)), False)

    def test_great_weights(self):
        """Many ties at few points, cut again and again: weights of many figures."""
        rng = random.Random(102)
        for points in (1, 2, 3, 5, 8, 20):
            for _ in range(6):
                web = random_web(rng, points, 24, 0.1)
                numbers = filled_box(rng, web, BIG)
                for box in (numbers, random_box(rng, web, BIG), filled_box(rng, web, 2),
                            Box(web, [(-BIG, BIG)] * 24, numbers.totals)):
                    paper = end_paper(web, box)
                    self.assertIs(end_holds(web, box, paper), True)
                    self.assertTrue(end_by_hand(web, box, paper))

    def test_weights_that_grow(self):
        """Each look uses two sides that looks at the next point tell: weights double from point to point."""
        ties = [(0, -1)]
        for at in range(11):
            ties += [(at, 1, at + 1, -1), (at, 1, at + 1, -1)]
        web = Web(12, ties + [(11, 1)])
        box = Box(web, [(0, 1)] + [(0, BIG)] * 23, [0] * 12)
        number, looks = bound_paper(web, box, 23, 1)
        self.assertEqual((number, max(look[3] for look in looks)), (2 ** 11, 2 ** 10))
        self.assertTrue(bound_by_hand(web, box, 23, 1, (number, looks)))
        self.assertIs(end_holds(web, box, end_paper(web, box)), True)
        heavy = tuple(look[:3] + (look[3] * 10 ** 70,) for look in looks)
        self.assertIs(bound_holds(web, box, 23, 1, (number, heavy)), False)
        self.assertFalse(any(end_holds(web, box, value) for value in spoiled(("end", ()))))

    def test_great_weights_in_what_shows_nothing(self):
        """A paper so many times as heavy shows it as well."""
        web, box = unclosed(5, BIG)
        looks, widths = nothing_paper(web, box)
        heavy = tuple(look[:3] + (look[3] * 10 ** 70,) for look in looks)
        self.assertIs(nothing_holds(web, box, (heavy, widths)), True)
        self.assertIs(nothing_holds(web, box, (heavy, ((0, 1),))), True)
        self.assertIs(nothing_holds(web, box, (looks, ((0, 1),))), False)
        for widths, holds in ((((0, 1), (1, 1)), True), (((1, 1), (0, 1)), False), (((0, 1), (0, 1)), False),
                              (((0, 0),), False), (((0, True),), False), (((0, -1),), False), (((5, 1),), False),
                              (((0, 1), [1, 1]), False), (((0, 1, 1),), False), ([(0, 1)], False),
                              (((4, 10 ** 30),), True), (((4, 10 ** 60),), False)):
            self.assertIs(nothing_holds(web, box, (heavy, widths)), holds, widths)

    def test_looks_alike_are_told_once(self):
        web, box = unclosed(3, BIG)
        looks, _ = nothing_paper(web, box)
        thrice = tuple(look[:3] + (3,) for look in looks)
        self.assertIs(nothing_holds(web, box, (thrice, ())), True)
        parted = (thrice[0][:3] + (1,), thrice[0][:3] + (2,)) + thrice[1:]
        self.assertIs(nothing_holds(web, box, (parted, ())), False)
        self.assertIs(nothing_holds(web, box, (thrice[:1] + thrice, ())), False)
        self.assertIs(nothing_holds(web, box, (thrice[::-1], ())), False)


if __name__ == "__main__":
    unittest.main()
