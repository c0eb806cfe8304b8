"""[20]: rows of looks that lead every box of a tree to its end."""

import itertools
import random
import unittest

from pushtells.errors import InvalidWeb, Refused
from pushtells.tighten import looked_along, sweep_holds, sweep_row, tightened
from pushtells.webs import Web, components
from tests.helpers import (JUNK, MIXED, NO_WEBS, PIPES, TRIANGLE, all_ways, error, filled_box, inner_points, raised,
                           random_box, random_forest, random_webs, spoiled)


def stands_in(way, row):
    """Whether the points of a way stand in order in a row."""
    rest = iter(row)
    return all(point in rest for point in way)


def held_by_hand(web, row):
    ways = [[point] for point in range(web.points)]
    for one, other in itertools.permutations(range(web.points), 2):
        ways += [[one] + inner_points(web, way, one) + [other] for way in all_ways(web, one, other)]
    return all(stands_in(way, row) for way in ways)


def closing_by_hand(web):
    """The first tie that closes a ring: with it there is one component less than ties make."""
    for many in range(1, len(web.ties) + 1):
        part = Web(web.points, web.ties[:many])
        two = [tie for tie in part.ties if len(tie) == 4]
        if len(components(part)) > web.points - len(two):
            return many - 1
    return None


class SweepTest(unittest.TestCase):
    def test_by_hand(self):
        self.assertEqual(sweep_row(Web(1, [(0, 1)])), (0,))
        self.assertEqual(sorted(sweep_row(Web(3, []))), [0, 1, 2])
        path = Web(3, [(0, 1, 1, 1), (1, 1, 2, 1), (1, 1)])
        self.assertEqual(len(sweep_row(path)), 5)
        for row, holds in (((0, 1, 2, 1, 0), True), ((2, 1, 0, 1, 2), True), ((0, 1, 2, 0, 1), False),
                           ((0, 1, 2, 1), False), ((0, 0, 1, 2, 2, 1, 1, 0, 2), True), ((), False),
                           ((0, 2, 1, 0, 2), True), ((1, 0, 2), False), ((0, 1, 2, True, 0), False),
                           ((0, 1, 2, 1, 3, 0), False), ((0, 1, 2, 1, None, 0), False), ((0, 1, 2, 1, 0, -1), False)):
            self.assertIs(sweep_holds(path, row), holds, row)
            self.assertIs(sweep_holds(path, list(row)), False)

    def test_rows_of_forests(self):
        rng = random.Random(80)
        for _ in range(80):
            web = random_forest(rng, rng.randint(1, 8))
            row = sweep_row(web)
            self.assertEqual(len(row), 2 * web.points - len(components(web)))
            self.assertTrue(held_by_hand(web, row))
            self.assertIs(sweep_holds(web, row), True)
            for value in list(spoiled(row)):
                plain = isinstance(value, tuple) and all(type(x) is int and 0 <= x < web.points for x in value)
                self.assertIs(sweep_holds(web, value), plain and held_by_hand(web, value), value)

    def test_any_rows(self):
        rng = random.Random(81)
        seen = [0, 0]
        for _ in range(200):
            web = random_forest(rng, rng.randint(1, 4))
            row = tuple(rng.randrange(web.points) for _ in range(rng.randint(0, 14)))
            self.assertIs(sweep_holds(web, row), held_by_hand(web, row))
            seen[held_by_hand(web, row)] += 1
        self.assertTrue(min(seen) > 20, seen)

    def test_every_box_comes_to_its_end(self):
        rng = random.Random(82)
        seen = [0, 0]
        for _ in range(200):
            web = random_forest(rng, rng.randint(1, 9))
            box = (filled_box if rng.random() < 0.6 else random_box)(rng, web, 9)
            told = looked_along(web, box, sweep_row(web))
            end = tightened(web, box)
            seen[end is None] += 1
            self.assertEqual(told[0] == "nothing", end is None)
            if end is not None:
                self.assertEqual(told, ("box", end))
        self.assertTrue(min(seen) > 20, seen)

    def test_rings_are_refused(self):
        self.assertEqual(raised(sweep_row, TRIANGLE), error(Refused, at=2))
        self.assertEqual(raised(sweep_row, PIPES), error(Refused, at=1))
        self.assertEqual(raised(sweep_row, MIXED), error(Refused, at=2))
        late = Web(5, [(0, 1), (0, 1, 1, 1), (3, 1, 4, 1), (1, 1, 2, 1), (1, 1), (2, 1, 3, 1), (4, 1, 0, 1), (0, 1, 1, 1)])
        for value in [sweep_row(Web(5, late.ties[:6])), None, (), []]:
            self.assertEqual(raised(sweep_holds, late, value), error(Refused, at=6))
        for web in random_webs(83, 80, 6, 8):
            closing = closing_by_hand(web)
            told = raised(sweep_row, web)
            if closing is None:
                self.assertIs(sweep_holds(web, told), True)
            else:
                self.assertEqual(told, error(Refused, at=closing))
                self.assertEqual(raised(sweep_holds, web, ()), error(Refused, at=closing))

    def test_any_values(self):
        web = Web(3, [(0, 1, 1, 1), (1, 1, 2, 1)])
        for value in JUNK:
            self.assertIs(sweep_holds(web, value), False)
        for value in NO_WEBS:
            self.assertEqual(raised(sweep_row, value), error(InvalidWeb, at=-1))
            self.assertEqual(raised(sweep_holds, value, None), error(InvalidWeb, at=-1))

    def test_great_trees(self):
        rng = random.Random(84)
        path = Web(150, [(at, 1, at + 1, -1) for at in range(149)])
        for web in (path, random_forest(rng, 150, 1), random_forest(rng, 150, 0)):
            row = sweep_row(web)
            self.assertIs(sweep_holds(web, row), True)
            self.assertIs(sweep_holds(web, row * 20), True)
            box = filled_box(rng, web, 10 ** 18)
            self.assertEqual(looked_along(web, box, row), ("box", tightened(web, box)))


if __name__ == "__main__":
    unittest.main()
