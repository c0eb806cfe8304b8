"""[8]: components, their rings, and signs by which all of a component's ties cancel."""

import itertools
import unittest

from pushtells.errors import InvalidPoint, InvalidWeb
from pushtells.webs import Web, components, parity_holds, parity_paper, ring_count, tie_kind, turned
from tests.helpers import (JUNK, MIXED, NO_INTEGERS, NO_WEBS, PIPES, TRIANGLE, all_rings, all_signs, doubles, ends_of,
                           error, pull_of, raised, random_webs, sign_of, spoiled, strict)


def lots_by_hand(web):
    lots = [{point} for point in range(web.points)]
    for number in doubles(web):
        joined = [lot for lot in lots if lot & set(ends_of(web, number))]
        lots = [lot for lot in lots if lot not in joined] + [set().union(*joined)]
    return tuple(sorted(tuple(sorted(lot)) for lot in lots))


def held_by_hand(web, point):
    """All papers of a point's component, told apart strictly."""
    lot = [lot for lot in lots_by_hand(web) if point in lot][0]
    papers = [("odd", ring) for ring in all_rings(web) if sign_of(web, ring) == -1 and ends_of(web, ring[0])[0] in lot]
    for signs in all_signs(web):
        inside = [number for number in doubles(web) if web.ties[number][0] in lot]
        if all((signs[point] != 0) == (point in lot) for point in range(web.points)):
            if all(pull_of(web.ties[number], signs) == 0 for number in inside):
                papers.append(("even", signs))
    return {strict(paper) for paper in papers}


class ComponentsTest(unittest.TestCase):
    def test_components(self):
        self.assertEqual(components(MIXED), ((0, 1), (2, 3, 4), (5,), (6,)))
        self.assertEqual(components(Web(1, [(0, 1)])), ((0,),))
        self.assertEqual(components(Web(1000, []))[999], (999,))
        for web in random_webs(6, 80, 8, 9):
            self.assertEqual(components(web), lots_by_hand(web))

    def test_ring_counts(self):
        self.assertEqual(ring_count(MIXED), (1, 1, 0, 0))
        self.assertEqual(ring_count(PIPES), (2,))
        self.assertEqual(ring_count(Web(3, [(0, 1, 1, 1), (1, 1), (1, 1, 2, 1)])), (0,))
        for web in random_webs(7, 60, 5, 7):
            for lot, many in zip(components(web), ring_count(web)):
                rings = {frozenset(ring) for ring in all_rings(web) if ends_of(web, ring[0])[0] in lot}
                self.assertEqual((many == 0, many == 1), (not rings, len(rings) == 1))
                self.assertEqual(many, len([x for x in doubles(web) if ends_of(web, x)[0] in lot]) - len(lot) + 1)

    def test_wrong_arguments(self):
        for value in NO_WEBS:
            for call, rest in ((components, ()), (ring_count, ()), (parity_paper, (0,)), (parity_holds, (9, None))):
                self.assertEqual(raised(call, value, *rest), error(InvalidWeb, at=-1))
        for point in NO_INTEGERS + [-1, 7]:
            self.assertEqual(raised(parity_paper, MIXED, point), error(InvalidPoint, at=-1))
            self.assertEqual(raised(parity_holds, MIXED, point, None), error(InvalidPoint, at=-1))


class ParityTest(unittest.TestCase):
    def test_by_hand(self):
        self.assertEqual(parity_paper(MIXED, 1), ("even", (1, 1, 0, 0, 0, 0, 0)))
        self.assertEqual(parity_paper(MIXED, 5), ("even", (0, 0, 0, 0, 0, 1, 0)))
        word, ring = parity_paper(MIXED, 4)
        self.assertEqual((word, sorted(ring)), ("odd", [3, 5, 6]))
        self.assertEqual(parity_paper(Web(2, [(0, 1, 1, 1)]), 1), ("even", (1, -1)))

    def test_all_papers_of_small_webs(self):
        for web in random_webs(8, 60, 4, 5):
            for point in range(web.points):
                paper = parity_paper(web, point)
                papers = held_by_hand(web, point)
                self.assertIn(strict(paper), papers)
                self.assertTrue(all(told.startswith("('" + paper[0]) for told in papers))
                near = [paper] + list(spoiled(paper)) + [("even", signs) for signs in all_signs(web)]
                near += [("odd", ring) for ring in all_rings(web)]
                for value in near:
                    self.assertEqual(parity_holds(web, point, value), strict(value) in papers, value)

    def test_the_least_point_has_1(self):
        for web in random_webs(9, 60, 6, 6):
            for lot in components(web):
                for point in lot:
                    word, told = parity_paper(web, point)
                    if word == "even":
                        self.assertEqual(told[lot[0]], 1)
                        self.assertTrue(parity_holds(web, point, ("even", tuple(-sign for sign in told))))
                        other = turned(web, [x for x in lot if told[x] == -1])
                        inside = [x for x in doubles(web) if ends_of(web, x)[0] in lot]
                        self.assertTrue(all(tie_kind(other, x) == "even" for x in inside))

    def test_wrong_signs(self):
        web = Web(3, [(0, 1, 1, -1)])
        self.assertTrue(parity_holds(web, 0, ("even", (1, 1, 0))))
        self.assertTrue(parity_holds(web, 1, ("even", (-1, -1, 0))))
        for signs in ((1, 1, 1), (1, 0, 0), (0, 0, 0), (1, -1, 0), (1, 1), (1, 1, 0, 0), (1, True, 0), (1, 1, False),
                      [1, 1, 0], (2, 2, 0), (0, 0, 1), None, "110"):
            self.assertIs(parity_holds(web, 0, ("even", signs)), False)
        self.assertTrue(parity_holds(web, 2, ("even", (0, 0, -1))))

    def test_rings_begun_anywhere(self):
        for ring in itertools.permutations(range(3)):
            self.assertTrue(parity_holds(TRIANGLE, 0, ("odd", ring)))
            self.assertFalse(parity_holds(TRIANGLE, 0, ("odd", list(ring))))
            self.assertFalse(parity_holds(TRIANGLE, 0, ["odd", ring]))
        web = Web(4, [(0, 1, 1, 1), (0, 1, 1, -1), (2, 1, 3, 1), (2, 1, 3, -1)])
        self.assertTrue(parity_holds(web, 0, ("odd", (1, 0))))
        self.assertFalse(parity_holds(web, 2, ("odd", (1, 0))))

    def test_any_values(self):
        for web in (MIXED, TRIANGLE, PIPES):
            for value in JUNK:
                self.assertIs(parity_holds(web, 0, value), False)

    def test_great_webs(self):
        ring = Web(1000, [(at, 1, (at + 1) % 1000, -1) for at in range(1000)] * 3)
        self.assertEqual(parity_paper(ring, 500), ("even", (1,) * 1000))
        odd = Web(1000, [(at, 1, (at + 1) % 1000, -1) for at in range(999)] + [(999, 1, 0, 1)])
        word, told = parity_paper(odd, 999)
        self.assertEqual((word, sorted(told)), ("odd", list(range(1000))))
        self.assertTrue(parity_holds(odd, 3, (word, told)))


if __name__ == "__main__":
    unittest.main()
