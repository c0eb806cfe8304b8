"""[32], [33], [34]: courts two and three, their papers, and the two theorems."""

import itertools
import random
import unittest

from pushtells.boxes import Box
from pushtells.courts import court2, court2_holds, court2_paper, court3, court3_holds, court3_paper, left_ties
from pushtells.ends import all_ends
from pushtells.pieces import court1
from pushtells.tighten import is_still, tightened
from pushtells.webs import Web, components, ring_count, side_by_side
from pushtells.whole import whole_filling, whole_through
from tests.helpers import (JUNK, MIXED, PIPES, TRIANGLE, all_rings, bad_pieces, check_errors, no_webs, random_box, random_boxes, random_forest, random_webs, sign_of, spoiled_sample)
from tests.sorts import (all_way_papers, court2_by_hand, court3_by_hand, holds2, holds3, inner_ties, loose_ties,
                         lots_by_hand)

PAIR = Web(2, [(0, 1, 1, -1)] * 2)
LEAKY = Web(2, [(0, 1, 1, -1), (0, 1, 1, -1), (0, 1)])


def left_by_hand(web):
    """Strike points of one tie till there are none, the greatest number first."""
    left = dict(enumerate(web.ties))
    while True:
        stands = {point: [n for n, tie in left.items() if point in (tie[0], tie[-2])] for point in range(web.points)}
        alone = [row for row in stands.values() if len(row) == 1]
        if not alone:
            return tuple(sorted(left))
        del left[max(alone)[0]]


class CourtsTest(unittest.TestCase):
    def test_by_hand(self):
        self.assertEqual(court2_paper(PIPES)[:2], ("piece", (0, 1, 2)))
        self.assertEqual(court3_paper(LEAKY)[0], "way")
        self.assertEqual(court3_paper(LEAKY)[2], (2,))
        self.assertEqual(court2_paper(TRIANGLE)[0], "odd")
        self.assertIn(court2_paper(PAIR), (("yes", (1, 1)), ("yes", (-1, -1))))
        told = [(PIPES, False, False), (TRIANGLE, False, False), (PAIR, True, True), (LEAKY, True, False),
                (Web(1, []), True, True), (Web(1, [(0, 1)] * 3), True, True), (MIXED, False, False)]
        for web, second, third in told:
            self.assertEqual((court2(web), court3(web)), (second, third))
        for signs in itertools.product((1, -1), repeat=2):
            self.assertIs(court2_holds(PAIR, ("yes", signs)), signs[0] == signs[1])
            self.assertIs(court3_holds(PAIR, ("yes", signs)), signs[0] == signs[1])
            self.assertIs(court2_holds(LEAKY, ("yes", signs)), signs[0] == signs[1])
            self.assertIs(court3_holds(LEAKY, ("yes", signs)), False)
            self.assertIs(court2_holds(PIPES, ("yes", signs)), False)
            self.assertIs(court3_holds(PIPES, ("yes", signs)), False)
        for way in ((2,), (2, 2), (), (0, 2), (3,), [2]):
            self.assertIs(court3_holds(LEAKY, ("way", (0, 1), way)), way == (2,))
            self.assertIs(court2_holds(LEAKY, ("way", (0, 1), way)), False)

    def test_the_order_of_papers(self):
        """Odd rings first, then pieces, then ways; each sort is held by itself."""
        both = side_by_side(side_by_side(LEAKY, PIPES), TRIANGLE)
        self.assertEqual((court2_paper(both)[0], court3_paper(both)[0]), ("odd", "odd"))
        even = side_by_side(LEAKY, PIPES)
        self.assertEqual((court2_paper(even)[0], court3_paper(even)[0]), ("piece", "piece"))
        for holds in (court2_holds, court3_holds):
            self.assertIs(holds(both, ("piece", (3, 4, 5), (0, 0, 1, 1, 0, 0, 0))), True)
            self.assertIs(holds(both, ("piece", (3, 4, 5), (0, 0, -1, -1, 0, 0, 0))), True)
            self.assertIs(holds(both, ("piece", (3, 4, 5), (1, 1, 1, 1, 0, 0, 0))), False)
            self.assertIs(holds(both, ("odd", (7, 8, 6))), True)
        self.assertIs(court3_holds(both, ("way", (1, 0), (2,))), True)

    def test_small_webs(self):
        seen = {}
        for web in random_webs(91, 500, 5, 6, 0.2):
            self.assertEqual((court2(web), court3(web)), (court2_by_hand(web), court3_by_hand(web)))
            odd = any(sign_of(web, ring) == -1 for ring in all_rings(web))
            for court, paper, holds, by_hand in ((court2, court2_paper(web), court2_holds, holds2),
                                                 (court3, court3_paper(web), court3_holds, holds3)):
                self.assertIs(holds(web, paper), True)
                self.assertTrue(by_hand(web, paper))
                crowded = any(len(inner_ties(web, lot)) > len(lot) for lot in lots_by_hand(web))
                due = "yes" if court(web) else "odd" if odd else "piece" if crowded else "way"
                self.assertEqual(paper[0], due)
                seen[court, due] = seen.get((court, due), 0) + 1
            self.assertLessEqual(court3(web), court2(web))
            self.assertLessEqual(court2(web), court1(web))
        self.assertTrue(len(seen) == 7 and min(seen.values()) > 5, seen)

    def test_all_papers_of_small_webs(self):
        for web in random_webs(92, 60, 4, 5, 0.3):
            papers = [("yes", signs) for signs in itertools.product((-1, 0, 1), repeat=web.points)]
            papers += [("odd", ring) for ring in all_rings(web)]
            papers += [("piece", row, signs) for row, rows in bad_pieces(web).items() for signs in rows]
            papers += all_way_papers(web)
            for value in papers:
                self.assertIs(court2_holds(web, value), holds2(web, value), value)
                self.assertIs(court3_holds(web, value), holds3(web, value), value)

    def test_ways(self):
        """All rows of ties behind a ring, that lead to something loose or do not."""
        web = Web(5, [(0, 1, 1, -1), (0, 1, 1, -1), (1, 1, 2, 1), (2, 1, 3, -1), (3, 1), (2, 1), (0, -1, 4, 1), (4, 1),
                      (2, 1, 3, 1)])
        held = 0
        for many in range(5):
            for row in itertools.permutations(range(9), many):
                told = court3_holds(web, ("way", (0, 1), row))
                self.assertIs(told, holds3(web, ("way", (0, 1), row)), row)
                held += told
        self.assertEqual(held, 4)
        self.assertIs(court3_holds(web, ("way", (3, 8), (5,))), False)

    def test_near_papers(self):
        for seed, web in enumerate(random_webs(93, 80, 4, 5, 0.3)):
            for value in spoiled_sample(court2_paper(web), seed, 60) + spoiled_sample(court3_paper(web), seed, 60):
                self.assertIs(court2_holds(web, value), holds2(web, value), value)
                self.assertIs(court3_holds(web, value), holds3(web, value), value)

    def test_any_value(self):
        for web in (PIPES, TRIANGLE, PAIR, LEAKY, MIXED):
            for value in JUNK:
                for told in (value, ("yes", value), ("odd", value), ("piece", value, value), ("way", value, value),
                             ("way", (0, 1), value), ("piece", (0, 1, 2), value)):
                    self.assertIs(court2_holds(web, told), holds2(web, told), told)
                    self.assertIs(court3_holds(web, told), holds3(web, told), told)

    def test_left_ties(self):
        self.assertEqual(left_ties(LEAKY), (0, 1, 2))
        self.assertEqual(left_ties(Web(3, [(0, 1, 1, 1), (1, 1, 2, 1), (0, 1)])), ())
        self.assertEqual(left_ties(Web(3, [(0, 1, 1, 1), (1, 1, 2, 1), (0, 1), (2, 1)])), (0, 1, 2, 3))
        self.assertEqual(left_ties(Web(2, [(0, 1), (1, 1), (1, -1)])), (1, 2))
        self.assertEqual(left_ties(Web(1, [])), ())
        for web in random_webs(94, 200, 6, 7, 0.3):
            left = left_ties(web)
            self.assertEqual(left, left_by_hand(web))
            kept = Web(web.points, [web.ties[number] for number in left])
            passes = True
            for lot, rings in zip(components(kept), ring_count(kept)):
                loose = bool(loose_ties(kept, lot))
                passes = passes and (rings == 0 or (rings == 1 and not loose and court2(kept) and
                                                    len(inner_ties(kept, lot)) == len(lot)))
            self.assertEqual(passes, court3(web))

    def test_great_webs(self):
        rng = random.Random(95)
        tree = random_forest(rng, 150)
        self.assertEqual((court2(tree), court3(tree)), (True, True))
        self.assertIs(court3_holds(tree, court3_paper(tree)), True)
        ring = Web(150, [(at, 1, (at + 1) % 150, -1) for at in range(150)])
        self.assertEqual((court2(ring), court3(ring)), (True, True))
        leaky = Web(150, list(ring.ties) + [(at % 150, 1) for at in range(210)])
        self.assertEqual((court2(leaky), court3_paper(leaky)[0]), (True, "way"))
        self.assertIs(court3_holds(leaky, court3_paper(leaky)), True)
        for web in random_webs(96, 4, 150, 360):
            self.assertIs(court2_holds(web, court2_paper(web)), True)
            self.assertIs(court3_holds(web, court3_paper(web)), True)

    def test_errors(self):
        for call in (left_ties, court2, court2_paper, court3, court3_paper):
            check_errors(self, call, [PIPES], [no_webs()])
        for call in (court2_holds, court3_holds):
            check_errors(self, call, [PIPES, None], [no_webs(), []])


class TheoremsTest(unittest.TestCase):
    def test_still_boxes_of_webs_that_pass(self):
        """Small still boxes: court 2, a whole filling; court 3, each whole value in one."""
        rng = random.Random(97)
        seen = {2: 0, 3: 0}
        for web, box in random_boxes(98, 500, 4, 5, 3, 0.3):
            box = tightened(web, box)
            if box is None or not court2(web):
                continue
            self.assertIs(is_still(web, box), True)
            seen[2] += 1
            self.assertIsNotNone(whole_filling(web, box))
            if court3(web):
                seen[3] += 1
                self.assertEqual(all_ends(web, box), tuple((2 * least, 2 * most) for least, most in box.bounds))
                for tie in range(len(web.ties)):
                    number = rng.randint(*box.bounds[tie])
                    self.assertIsNotNone(whole_through(web, box, tie, number))
        self.assertTrue(min(seen.values()) > 80, seen)

    def test_all_small_boxes_of_small_webs(self):
        """No still box of what passes fails, some still box of what does not pass fails."""
        webs = [PIPES, PAIR, LEAKY, Web(2, [(0, 1, 1, 1), (0, 1, 1, -1)]), Web(2, [(0, 1, 1, 1), (0, 1), (1, 1)]),
                Web(2, [(0, 1, 1, 1)] * 2)]
        for web in webs:
            lacking = missed = 0
            pairs = [(0, 0), (0, 1), (-1, 0), (0, 2), (-1, 1)]
            for bounds in itertools.product(pairs, repeat=len(web.ties)):
                for totals in itertools.product(range(-2, 5), repeat=2):
                    box = Box(web, bounds, totals)
                    if is_still(web, box):
                        ends = all_ends(web, box)
                        lacking += whole_filling(web, box) is None
                        missed += ends != tuple((2 * least, 2 * most) for least, most in bounds)
            self.assertEqual((lacking == 0, missed == 0), (court2(web), court3(web)), web.ties)

    def test_random_boxes_rarely_fool(self):
        rng = random.Random(99)
        for web in random_webs(100, 60, 5, 6, 0.2):
            end = tightened(web, random_box(rng, web, 4))
            if court2(web) and end is not None:
                self.assertIsNotNone(whole_filling(web, end))


if __name__ == "__main__":
    unittest.main()
