"""[5], [6], [7]: webs, their points and ties, ways and rings."""

import itertools
import random
import unittest

from pushtells.boxes import Box
from pushtells.errors import InvalidLot, InvalidPoint, InvalidRow, InvalidSize, InvalidTie, InvalidTies, InvalidWeb
from pushtells.webs import (Web, part_of, point_ties, row_sign, side_by_side, struck, tie_kind, turned, way_ends)
from tests.helpers import (JUNK, MIXED, NO_INTEGERS, NO_SEQUENCES, NO_WEBS, PIPES, TRIANGLE, all_rings, all_ways,
                           doubles, error, inner_points, raised, random_webs, sign_of, strict)


class WebTest(unittest.TestCase):
    def test_attributes(self):
        web = Web(3, [[2, 1, 0, -1], (1, -1), (0, 1, 1, 1), [0, 1, 1, 1]])
        self.assertEqual(web.points, 3)
        self.assertEqual(web.ties, ((0, -1, 2, 1), (1, -1), (0, 1, 1, 1), (0, 1, 1, 1)))
        self.assertIs(type(web.ties), tuple)
        self.assertTrue(all(type(tie) is tuple for tie in web.ties))
        self.assertEqual(vars(web), {"points": 3, "ties": web.ties})

    def test_equality(self):
        self.assertTrue(Web(2, [(1, -1, 0, 1)]) == Web(2, ((0, 1, 1, -1),)))
        self.assertFalse(Web(2, [(1, -1, 0, 1)]) != Web(points=2, ties=[[0, 1, 1, -1]]))
        for other in (Web(3, [(0, 1, 1, -1)]), Web(2, [(0, 1, 1, 1)]), Web(2, []), Web(2, [(0, 1, 1, -1)] * 2)):
            self.assertFalse(Web(2, [(0, 1, 1, -1)]) == other)
            self.assertTrue(Web(2, [(0, 1, 1, -1)]) != other)
        self.assertFalse(Web(2, [(0, 1), (1, 1)]) == Web(2, [(1, 1), (0, 1)]))
        for other in (None, 2, (), (2, ()), "web", Box(Web(2, []), [], [0, 0])):
            self.assertFalse(Web(2, []) == other)

    def test_later_changes_do_nothing(self):
        ties = [[0, 1, 1, 1], [1, 1]]
        web = Web(2, ties)
        ties[0][1] = -1
        ties.append([0, 1])
        self.assertEqual(web, Web(2, [(0, 1, 1, 1), (1, 1)]))

    def test_sizes(self):
        self.assertEqual(Web(1, []).ties, ())
        self.assertEqual(Web(1000, [(999, 1, 0, 1)] * 3000).ties[2999], (0, 1, 999, 1))
        for points in NO_INTEGERS + [0, -1, 1001, 10 ** 30]:
            self.assertEqual(raised(Web, points, [(0, 1)]), error(InvalidSize, word="points"))
            self.assertEqual(raised(Web, points, None), error(InvalidSize, word="points"))
        for ties in NO_SEQUENCES + [[(0, 1)] * 3001, ((0, 1),) * 3001, [None] * 3001]:
            self.assertEqual(raised(Web, 1, ties), error(InvalidTies, at=-1))

    def test_wrong_ties(self):
        wrong = [(), (0,), (0, 1, 1), (0, 1, 1, 1, 1), (3, 1), (-1, 1), (0, 0), (0, 2), (0, True), (True, 1), (0, -2),
                 (0, 1, 0, 1), (0, 1, 0, -1), (0, 1, 3, 1), (0, 1, 1, 0), (0, 1, 1, True), (0, 1, True, 1), "01",
                 (False, 1, 1, 1), ("0", 1), (None, 1), ((0, 1),), [[0, 1], [1, 1]], None, 0, Web(1, [])] + NO_SEQUENCES
        for tie in wrong:
            for at in range(3):
                ties = [(0, 1), (0, 1, 1, 1), (2, -1)]
                ties[at] = tie
                self.assertEqual(raised(Web, 3, ties), error(InvalidTies, at=at), tie)
                self.assertEqual(raised(Web, 3, tuple(ties) + (None,)), error(InvalidTies, at=at), tie)

    def test_wrong_webs(self):
        for value in NO_WEBS:
            for call, rest in ((point_ties, (9,)), (tie_kind, (9,)), (turned, (None,)), (struck, (None,)),
                               (part_of, (None,)), (way_ends, (None,)), (row_sign, (None,))):
                self.assertEqual(raised(call, value, *rest), error(InvalidWeb, at=-1), call)
            self.assertEqual(raised(side_by_side, value, None), error(InvalidWeb, at=0))
            self.assertEqual(raised(side_by_side, PIPES, value), error(InvalidWeb, at=1))


class PartsTest(unittest.TestCase):
    def test_ties_of_a_point(self):
        self.assertEqual([point_ties(MIXED, point) for point in range(7)],
                         [(0, 1, 2), (0, 2), (3, 5), (3, 6), (4, 5, 6, 7), (), ()])
        for point in NO_INTEGERS + [-1, 7, 10 ** 30]:
            self.assertEqual(raised(point_ties, MIXED, point), error(InvalidPoint, at=-1))

    def test_kinds(self):
        self.assertEqual([tie_kind(MIXED, tie) for tie in range(8)],
                         ["even", "loose", "even", "odd", "loose", "even", "even", "loose"])
        for tie in NO_INTEGERS + [-1, 8]:
            self.assertEqual(raised(tie_kind, MIXED, tie), error(InvalidTie, at=-1))
        self.assertEqual(raised(tie_kind, Web(1, []), 0), error(InvalidTie, at=-1))

    def test_turned(self):
        web = Web(3, [(0, 1, 1, -1), (2, 1), (1, 1, 2, 1)])
        self.assertEqual(turned(web, [2, 0]), Web(3, [(0, -1, 1, -1), (2, -1), (1, 1, 2, -1)]))
        self.assertEqual(turned(web, ()), web)
        for web in random_webs(1, 40, 6, 9):
            for points in itertools.combinations(range(web.points), min(2, web.points)):
                other = turned(web, points[::-1])
                self.assertEqual(turned(other, points), web)
                for number, tie in enumerate(web.ties):
                    crosses = len(tie) == 4 and (tie[0] in points) != (tie[2] in points)
                    self.assertEqual(tie_kind(web, number) != tie_kind(other, number), crosses)

    def test_wrong_lots(self):
        calls = ((turned, 7), (struck, 8), (part_of, 7))
        for call, many in calls:
            for value in NO_SEQUENCES:
                self.assertEqual(raised(call, MIXED, value), error(InvalidLot, at=-1))
            for wrong in NO_INTEGERS + [-1, many, 10 ** 30, 3]:
                self.assertEqual(raised(call, MIXED, [3, 0, wrong, None]), error(InvalidLot, at=2), call)
                self.assertEqual(raised(call, MIXED, (3, wrong)), error(InvalidLot, at=1), call)
        self.assertEqual(raised(part_of, MIXED, []), error(InvalidLot, at=-1))
        self.assertEqual(raised(part_of, MIXED, ()), error(InvalidLot, at=-1))

    def test_struck(self):
        self.assertEqual(struck(MIXED, [7, 0, 3]), Web(7, [MIXED.ties[at] for at in (1, 2, 4, 5, 6)]))
        self.assertEqual(struck(MIXED, ()), MIXED)
        self.assertEqual(struck(MIXED, list(range(8))[::-1]), Web(7, []))

    def test_part(self):
        part, ties = part_of(MIXED, [4, 2, 3])
        self.assertEqual(ties, (3, 4, 5, 6, 7))
        self.assertEqual(part, Web(3, [(0, 1, 1, 1), (2, 1), (0, 1, 2, -1), (1, -1, 2, 1), (2, 1)]))
        self.assertEqual(part_of(MIXED, (0,)), (Web(1, [(0, -1)]), (1,)))
        self.assertEqual(part_of(MIXED, [5]), (Web(1, []), ()))
        self.assertEqual(part_of(MIXED, tuple(range(7))), (MIXED, tuple(range(8))))
        for web in random_webs(2, 40, 6, 9):
            points = random.Random(web.points).sample(range(web.points), (web.points + 1) // 2)
            part, ties = part_of(web, points)
            inside = [at for at, tie in enumerate(web.ties) if set(tie[::2]) <= set(points)]
            self.assertEqual((part.points, list(ties)), (len(points), inside))
            back = [[sorted(points)[x] if at % 2 == 0 else x for at, x in enumerate(tie)] for tie in part.ties]
            self.assertEqual(back, [list(web.ties[number]) for number in ties])

    def test_side_by_side(self):
        self.assertEqual(side_by_side(PIPES, TRIANGLE),
                         Web(5, [(0, 1, 1, -1)] * 3 + [(2, 1, 3, 1), (3, 1, 4, 1), (2, 1, 4, 1)]))
        self.assertEqual(side_by_side(Web(1, [(0, 1)]), Web(1, [(0, -1)])), Web(2, [(0, 1), (1, -1)]))
        self.assertEqual(side_by_side(Web(999, []), Web(1, [])).points, 1000)
        self.assertEqual(raised(side_by_side, Web(999, []), Web(2, [])), error(InvalidSize, word="points"))
        full = Web(1, [(0, 1)] * 3000)
        self.assertEqual(len(side_by_side(full, Web(1, [])).ties), 3000)
        self.assertEqual(raised(side_by_side, full, Web(1, [(0, 1)])), error(InvalidSize, word="ties"))
        self.assertEqual(raised(side_by_side, full, Web(1000, [(0, 1)])), error(InvalidSize, word="points"))


class RowsTest(unittest.TestCase):
    def test_ends_of_ways(self):
        self.assertEqual(way_ends(MIXED, (0,)), (0, 1))
        self.assertEqual(way_ends(MIXED, [3, 5]), (3, 4))
        self.assertEqual(way_ends(MIXED, (5, 3)), (4, 3))
        path = Web(4, [(3, 1, 2, 1), (0, 1, 2, 1), (1, 1, 0, -1)])
        self.assertEqual((way_ends(path, (0, 1, 2)), way_ends(path, [2, 1, 0])), ((3, 1), (1, 3)))

    def test_all_rows_of_small_webs(self):
        for web in random_webs(3, 60, 4, 5):
            ways = {}
            for one, other in itertools.permutations(range(web.points), 2):
                for way in all_ways(web, one, other):
                    ways[way] = (one, other) if len(way) > 1 or one < other else (other, one)
            rings = all_rings(web)
            for many in range(5):
                for row in itertools.product(range(len(web.ties)), repeat=many):
                    told = raised(way_ends, web, row)
                    self.assertEqual(told, ways.get(row, error(InvalidRow, at=-1)))
                    told = sign_of(web, row) if row in ways or row in rings or not row else error(InvalidRow, at=-1)
                    self.assertEqual(raised(row_sign, web, row), told)
                    self.assertEqual(raised(row_sign, web, list(row)), told)

    def test_signs(self):
        self.assertEqual([row_sign(TRIANGLE, row) for row in ((), [], (0,), (0, 1), (0, 1, 2), (1, 0, 2))],
                         [1, 1, -1, 1, -1, -1])
        self.assertEqual(row_sign(PIPES, (0, 2)), 1)
        self.assertEqual(raised(row_sign, PIPES, (0, 0)), error(InvalidRow, at=-1))
        self.assertEqual(raised(row_sign, PIPES, (0, 1, 2)), error(InvalidRow, at=-1))

    def test_wrong_rows(self):
        for row in JUNK:
            self.assertEqual(raised(way_ends, Web(2, [(0, 1)]), row), error(InvalidRow, at=-1))
            if strict(row) not in ("()", "[]"):
                self.assertEqual(raised(row_sign, Web(2, [(0, 1)]), row), error(InvalidRow, at=-1))
        for row in ((True, 1), (0, True), (0, 3), (-1,), (0, None), ((0, 1),), (0, 1, 0)):
            self.assertEqual(raised(way_ends, TRIANGLE, row), error(InvalidRow, at=-1))
            self.assertEqual(raised(row_sign, TRIANGLE, row), error(InvalidRow, at=-1))

    def test_turning_leaves_the_signs_of_rings(self):
        for web in random_webs(4, 40, 5, 7):
            other = turned(web, list(range(0, web.points, 2)))
            for ring in all_rings(web):
                self.assertEqual(row_sign(web, ring), row_sign(other, ring))

    def test_of_three_ways_two_are_alike(self):
        for web in random_webs(5, 60, 4, 6, 0):
            for one, other in itertools.combinations(range(web.points), 2):
                for ways in itertools.combinations(all_ways(web, one, other), 3):
                    inner = [point for way in ways for point in inner_points(web, way, one)]
                    if len(set(inner)) == len(inner) and len(set(sum(ways, ()))) == len(sum(ways, ())):
                        rings = [(a + b[::-1]) for a, b in itertools.combinations(ways, 2)]
                        self.assertIn(1, [row_sign(web, ring) for ring in rings])

    def test_long_ways_and_rings(self):
        ring = Web(1000, [(at, 1, (at + 1) % 1000, -1) for at in range(1000)])
        self.assertEqual(doubles(ring), list(range(1000)))
        self.assertEqual(way_ends(ring, tuple(range(5, 1000))), (5, 0))
        self.assertEqual(row_sign(ring, tuple(range(7, 1000)) + tuple(range(7))), 1)


if __name__ == "__main__":
    unittest.main()
