"""The looks behind an upper number, by rounds that are made up here: what small boxes hardly come to."""

import unittest

from pushtells.ledger import looks_back, moved_by, turning_row
from pushtells.looks import point_stars
from pushtells.webs import Web

WEB = Web(2, [(0, 1, 1, -1), (0, 1, 1, -1), (1, 1)])
STARS = point_stars(WEB)


class LedgerTest(unittest.TestCase):
    def test_looks_are_taken_as_often_as_they_are_wanted(self):
        log = [{(0, 1): (5, 0)}, {(2, 1): (5, 1)}]
        self.assertEqual(looks_back(WEB.ties, STARS, log, {(2, 1): 3}, {}), ((0, 1, 0, 3), (1, 1, 2, 3)))
        self.assertEqual(looks_back(WEB.ties, STARS, log, {(2, 1): 1, (0, 1): 4}, {}), ((0, 1, 0, 5), (1, 1, 2, 1)))
        self.assertEqual(looks_back(WEB.ties, STARS, log, {(1, -1): 9}, {}), ())

    def test_a_side_that_is_paid_for_may_be_wanted_besides(self):
        log = [{(0, 1): (5, 0)}, {(2, 1): (5, 1)}]
        turns = {1: ((2, 1), (0, 1))}
        self.assertEqual(looks_back(WEB.ties, STARS, log, {(0, 1): 2}, turns), ((0, 1, 0, 2), (1, 1, 2, 1)))
        self.assertEqual(looks_back(WEB.ties, STARS, log, {}, turns), ((1, 1, 2, 1),))

    def test_a_side_moves_by_what_its_other_point_moved(self):
        log = [{(0, 1): (4, 1), (1, 1): (4, 0)}, {(2, 1): (3, 1)}]
        self.assertEqual(moved_by(WEB.ties, STARS, log, 1, (2, 1)), (1, 1))
        self.assertIsNone(moved_by(WEB.ties, STARS, log[:1] + [{(2, -1): (3, 1)}], 1, (2, -1)))

    def test_a_row_that_comes_back_leaves_out_what_led_to_it(self):
        """The loose tie moves last: the row is that of the ring ahead of it."""
        ring = Web(2, [(0, 1, 1, -1), (0, -1, 1, 1), (1, 1)])
        stars = point_stars(ring)
        log = [{(1, 1): (9, 0)}, {(0, 1): (8, 1)}, {(1, 1): (7, 0)}, {(0, 1): (6, 1)}, {(1, 1): (5, 0)}, {(2, -1): (4, 1)}]
        turns = turning_row(ring.ties, stars, log)
        self.assertEqual(turns, {4: ((1, 1), (0, 1)), 3: ((0, 1), (1, 1))})


if __name__ == "__main__":
    unittest.main()
