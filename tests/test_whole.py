"""[29], [30], [31]: whole fillings, through a number, and trees that show that there are none."""

import itertools
import random
import unittest

from pushtells.boxes import Box, cut_box
from pushtells.courts import court2
from pushtells.cover import cover_box, cover_web
from pushtells.ends import all_ends
from pushtells.errors import InvalidSize, InvalidValue
from pushtells.fillings import fill_paper
from pushtells.tighten import tightened
from pushtells.webs import Web, ring_count, side_by_side, struck
from pushtells.whole import is_whole_filling, whole_filling, whole_holds, whole_paper, whole_through
from tests.helpers import (JUNK, NO_INTEGERS, PIPES, TRIANGLE, all_rings, check_errors, doubles, ends_of, error,
                           filled_box, fills_by_hand, great_boxes, half_rows, lots_by_hand, no_boxes, no_ties, no_webs,
                           odd_components, raised, random_boxes, random_forest, random_web, shows_by_hand, sign_of,
                           spoiled_sample, told_as, totals_of, whole_rows)

BIG = 10 ** 18
ONE, OTHER = [Box(TRIANGLE, [(0, 1)] * 3, totals) for totals in [(1, 1, 1), (1, 1, 2)]]
REFUSED = error(InvalidSize, word="settings")
# Two chords on odd rings, and so much that is loose that no look cuts them.
KNOT = Web(2, [(0, 1, 1, 1), (0, 1, 1, -1), (0, 1, 1, 1), (0, 1), (1, 1)])


def knot_box(first, second, total=0):
    """A box of so many settings: so many numbers on either chord."""
    return Box(KNOT, [(-BIG, BIG), (5, 4 + first), (-3, second - 4), (-9 * BIG, 9 * BIG), (-9 * BIG, 9 * BIG)], (total, 0))


def settings_by_hand(web, box):
    """Word by word: rings closed going up, in components with an odd ring and two such ties or more."""
    end = tightened(web, box)
    if end is None:
        return 0
    settings = 1
    for lot in odd_components(web):
        chords = []
        inner = [number for number in doubles(web) if web.ties[number][0] in lot]
        for at, number in enumerate(inner):
            one, other = ends_of(web, number)
            if any(one in part and other in part for part in lots_by_hand(web, inner[:at])):
                chords.append(number)
        if len(chords) > 1:
            for number in chords:
                settings *= end.bounds[number][1] - end.bounds[number][0] + 1
    return settings


def tree_by_hand(web, box, tree):
    if told_as(tree, "signs", 2):
        return shows_by_hand(web, box, tree[1])
    if not told_as(tree, "parted", 5) or type(tree[1]) is not int or type(tree[2]) is not int:
        return False
    if not 0 <= tree[1] < len(web.ties):
        return False
    least, most = box.bounds[tree[1]]
    if not least <= tree[2] < most:
        return False
    low, high = list(box.bounds), list(box.bounds)
    low[tree[1]], high[tree[1]] = (least, tree[2]), (tree[2] + 1, most)
    return (tree_by_hand(web, Box(web, low, box.totals), tree[3]) and
            tree_by_hand(web, Box(web, high, box.totals), tree[4]))


def holds_by_hand(web, box, value):
    if told_as(value, "filling", 2):
        return fills_by_hand(web, box, value[1], 1)
    return told_as(value, "none", 2) and tree_by_hand(web, box, value[1])


def partings(tree):
    """(in all, one within another)."""
    if tree[0] == "signs":
        return 0, 0
    below, above = partings(tree[3]), partings(tree[4])
    return below[0] + above[0] + 1, max(below[1], above[1]) + 1


def half_box(web, size):
    """Each tie from 0 to the size, totals half of what all can have at the most, or a half below."""
    return Box(web, [(0, size)] * len(web.ties), [total // 2 for total in totals_of(web, (size,) * len(web.ties))])


class WholeTest(unittest.TestCase):
    def test_the_example(self):
        self.assertEqual((whole_filling(TRIANGLE, ONE), whole_filling(TRIANGLE, OTHER)), (None, (0, 1, 1)))
        word, tree = whole_paper(TRIANGLE, ONE)
        self.assertEqual((word, tree[0], whole_holds(TRIANGLE, ONE, (word, tree))), ("none", "parted", True))
        self.assertEqual(whole_paper(TRIANGLE, OTHER), ("filling", (0, 1, 1)))
        tree = ("parted", 1, 0, ("signs", (-1, 1, 1)), ("signs", (1, -1, -1)))
        self.assertIs(whole_holds(TRIANGLE, ONE, ("none", tree)), True)
        self.assertIs(whole_holds(TRIANGLE, ONE, ("none", tree[:3] + (tree[4], tree[3]))), False)
        self.assertIs(whole_holds(TRIANGLE, OTHER, ("none", tree)), False)
        self.assertIs(is_whole_filling(TRIANGLE, OTHER, (0, 1, 1)), True)
        self.assertIs(is_whole_filling(TRIANGLE, OTHER, [0, 1, 1]), False)
        self.assertIs(is_whole_filling(TRIANGLE, OTHER, (False, True, True)), False)

    def test_whole_fillings_of_small_boxes(self):
        seen = {"filling": 0, "signs": 0, "parted": 0}
        for web, box in random_boxes(71, 500, 4, 6, 2, 0.05):
            rows = whole_rows(web, box)
            if settings_by_hand(web, box) > 4096:
                self.assertEqual([raised(call, web, box) for call in (whole_filling, whole_paper)], [REFUSED] * 2)
                continue
            word, told = whole_paper(web, box)
            self.assertEqual(word, "filling" if rows else "none")
            self.assertIs(whole_holds(web, box, (word, told)), True)
            self.assertTrue(holds_by_hand(web, box, (word, told)))
            filling = whole_filling(web, box)
            self.assertEqual(filling is None, not rows)
            seen[word if rows else told[0]] += 1
            if rows:
                self.assertIn(filling, rows)
                self.assertTrue(all(is_whole_filling(web, box, row) is True for row in rows[:20]))
                self.assertTrue(all(whole_holds(web, box, ("filling", row)) is True for row in rows[:20]))
            else:
                self.check_tree(web, box, told)
        self.assertTrue(min(seen.values()) > 0, seen)

    def check_tree(self, web, box, tree):
        """As few partings as [31] tells; where each component has one ring at most, one parting is enough."""
        many, deep = partings(tree)
        self.assertTrue(many <= 4096 and deep <= 30)
        if max(ring_count(web)) < 2 and fill_paper(web, box)[0] == "filling":
            end = tightened(web, box)
            held = []
            for tie in sorted({x for ring in all_rings(web) if sign_of(web, ring) == -1 for x in ring}):
                middle = sum(end.bounds[tie]) // 2
                least, most = box.bounds[tie]
                halves = [cut_box(web, box, tie, *pair) for pair in ((least, middle), (middle + 1, most))]
                papers = [fill_paper(web, half) for half in halves if half is not None]
                if [paper[0] for paper in papers] == ["signs", "signs"]:
                    held.append(whole_holds(web, box, ("none", ("parted", tie, middle) + tuple(papers))))
            self.assertTrue(held and all(held))

    def test_trees_of_knots(self):
        """Odd rings side by side and within one another, with halves or nothing at all."""
        rng = random.Random(72)
        seen = 0
        for _ in range(120):
            points = rng.randint(3, 5)
            web = random_web(rng, points, points + rng.randint(1, 6), 0)
            box = half_box(web, 1)
            word, told = whole_paper(web, box)
            self.assertEqual(word == "filling", bool(whole_rows(web, box)))
            self.assertIs(whole_holds(web, box, (word, told)), True)
            if word == "none":
                seen += told[0] == "parted"
                self.assertTrue(tree_by_hand(web, box, told))
                self.check_tree(web, box, told)
        self.assertGreater(seen, 20)

    def test_components_without_odd_rings(self):
        """A whole filling exactly if a filling; with at most one ring, exactly if an end."""
        rng = random.Random(73)
        seen = {True: 0, False: 0}
        for web, box in random_boxes(74, 300, 5, 6, 3):
            if odd_components(web):
                continue
            filling = whole_filling(web, box)
            self.assertEqual(filling is None, fill_paper(web, box)[0] == "signs")
            if court2(web):
                self.assertEqual(filling is None, tightened(web, box) is None)
            seen[filling is None] += 1
        self.assertTrue(min(seen.values()) > 20, seen)
        web = random_forest(rng, 150)
        box = filled_box(rng, web, BIG)
        self.assertIs(is_whole_filling(web, box, whole_filling(web, box)), True)

    def test_one_odd_ring_two_tries(self):
        """With a tie of the ring, any one, at its middle, or at either side of it."""
        seen = {True: 0, False: 0}
        rng = random.Random(84)
        boxes = random_boxes(75, 400, 4, 5, 3, 0.3)
        boxes += [(web, half_box(web, rng.choice((1, 3)))) for web, _ in random_boxes(85, 400, 4, 5, 3, 0.1)]
        for web, box in boxes:
            rings = [ring for ring in all_rings(web) if sign_of(web, ring) == -1]
            end = tightened(web, box)
            if max(ring_count(web)) > 1 or len({tuple(sorted(ring)) for ring in rings}) != 1 or end is None:
                continue
            filling = whole_filling(web, box)
            for tie in rings[0]:
                low, high = end.bounds[tie]
                tries = sorted({(low + high) // 2, (low + high + 1) // 2})
                left = [x for x in tries if tightened(web, cut_box(web, end, tie, x, x)) is not None]
                self.assertEqual(bool(left), filling is not None)
                if len(tries) == 1:
                    self.assertTrue(left)
            seen[filling is None] += 1
        self.assertTrue(min(seen.values()) > 20, seen)

    def test_settings(self):
        self.assertEqual([settings_by_hand(KNOT, knot_box(*pair)) for pair in ((64, 64), (17, 241))], [4096, 4097])
        for first, second in ((64, 64), (1, 4096), (4096, 1), (2, 2048)):
            box = knot_box(first, second)
            self.assertIs(is_whole_filling(KNOT, box, whole_filling(KNOT, box)), True)
            self.assertEqual(whole_paper(KNOT, box)[0], "filling")
            self.assertEqual(whole_through(KNOT, box, 1, 5)[1], 5)
        for first, second in ((17, 241), (1, 4097), (4097, 1), (65, 64), (BIG, 1)):
            box = knot_box(first, second)
            for call, rest in ((whole_filling, ()), (whole_paper, ()), (whole_through, (1, 5)), (whole_through, (1, 4)),
                               (whole_through, (3, 10 ** 30))):
                self.assertEqual(raised(call, KNOT, box, *rest), REFUSED)

    def test_no_end_no_settings(self):
        box = knot_box(BIG, BIG, 10 ** 21)
        self.assertEqual(settings_by_hand(KNOT, box), 0)
        self.assertIsNone(whole_filling(KNOT, box))
        self.assertIs(whole_holds(KNOT, box, whole_paper(KNOT, box)), True)
        self.assertIsNone(whole_through(KNOT, box, 1, 5))
        # So it is, too, where nothing is left of another component.
        web = side_by_side(KNOT, Web(1, []))
        told = knot_box(BIG, BIG)
        self.assertIsNone(whole_filling(web, Box(web, told.bounds, told.totals + (1,))))
        self.assertEqual(whole_paper(web, Box(web, told.bounds, told.totals + (1,)))[0], "none")
        self.assertEqual(raised(whole_filling, web, Box(web, told.bounds, told.totals + (0,))), REFUSED)

    def test_what_does_not_count_as_settings(self):
        """Chords of even components, single chords, what the end cuts; of two components all count together."""
        wide = [(-BIG, BIG)] * 5
        evens = Web(2, [(0, 1, 1, -1)] * 5)
        self.assertIsNotNone(whole_filling(evens, Box(evens, wide, (0, 0))))
        single = struck(KNOT, [2])
        self.assertIsNotNone(whole_filling(single, Box(single, wide[:4], (0, 0))))
        tight = struck(KNOT, [3, 4])
        narrow = Box(tight, [(0, 63), (-BIG, BIG), (0, 63)], (30, 10))
        self.assertLess(settings_by_hand(tight, narrow), 2 * 64 * 64)
        settings = settings_by_hand(tight, narrow)
        self.assertEqual(raised(whole_filling, tight, narrow) == REFUSED, settings > 4096)
        both = side_by_side(KNOT, KNOT)
        for sizes, refused in (((8, 8, 8, 8), False), ((8, 8, 8, 9), True), ((4096, 1, 1, 1), False), ((64, 64, 2, 1), True)):
            one, other = knot_box(*sizes[:2]), knot_box(*sizes[2:])
            box = Box(both, one.bounds + other.bounds, one.totals + other.totals)
            self.assertEqual(raised(whole_filling, both, box) == REFUSED, refused)

    def test_judges_are_never_refused(self):
        box = knot_box(BIG, BIG)
        row = (0, 5, 0, -5, 5)
        self.assertIs(is_whole_filling(KNOT, box, row), True)
        self.assertIs(whole_holds(KNOT, box, ("filling", row)), True)
        self.assertIs(whole_holds(KNOT, box, ("filling", row[::-1])), False)
        self.assertIs(whole_holds(KNOT, box, ("none", ("signs", (1, 1)))), False)
        self.assertIs(whole_holds(KNOT, knot_box(BIG, BIG, 10 ** 21), ("none", ("signs", (1, 0)))), True)

    def test_great_settings(self):
        """The most partings that may be: three of four points' rings with halves alone."""
        rng = random.Random(76)
        seen = 0
        for points, ties in ((13, 24), (5, 16), (11, 21)):
            for _ in range(6):
                web = random_web(rng, points, ties, 0)
                if max(ring_count(web)) > 12:
                    continue
                box = half_box(web, 1)
                word, told = whole_paper(web, box)
                self.assertIs(whole_holds(web, box, (word, told)), True)
                if word == "none":
                    seen += 1
                    many, deep = partings(told)
                    self.assertTrue(many <= 4096 and deep <= 30, (many, deep))
        self.assertGreater(seen, 3)

    def test_parts_that_hang_together_by_settled_ties(self):
        """4,096 settings: four lots of three odd rings, two or all of which want a tie of a last point that has fewer."""
        star = [(at, 1, at + 1, sign) for at in (0, 2, 4) for sign in (1, -1)] + [(at, 1, 6, 1) for at in (0, 2, 4)]
        good, bad = [1, 0, 1, 0, 2, 0, 2], [1, 0, 1, 0, 1, 0, 1]
        for lots in ((good, good, good, bad), (good,) * 4, (bad, good, good, bad), (good, bad, good, good)):
            ties = [tuple(x + 7 * lot if at % 2 == 0 else x for at, x in enumerate(tie)) for lot in range(4) for tie in star]
            web = Web(28, ties + [(0, 1, 7, -1), (7, 1, 14, -1), (14, 1, 21, -1)])
            box = Box(web, [(0, 1)] * 36 + [(0, 0)] * 3, sum(lots, []))
            word, told = whole_paper(web, box)
            self.assertEqual((word, whole_filling(web, box) is None), ("none", True) if bad in lots else ("filling", False))
            self.assertIs(whole_holds(web, box, (word, told)), True)
            if word == "none":
                self.assertLessEqual(partings(told)[0], 4096)

    def test_great_webs(self):
        for web, box in great_boxes(77):
            evens = Web(web.points, [told if len(told) == 2 else told[:3] + (-told[1],) for told in web.ties])
            filled = filled_box(random.Random(1), evens, BIG)
            row = whole_filling(evens, filled)
            self.assertIs(whole_holds(evens, filled, ("filling", row)), True)
            self.assertEqual(raised(whole_filling, web, box), REFUSED)
            above = whole_paper(cover_web(web), cover_box(web, box))
            self.assertIs(whole_holds(cover_web(web), cover_box(web, box), above), True)
            fixed = Box(web, [(x, x) for x, _ in box.bounds[:300]] + list(box.bounds[300:]), box.totals)
            self.assertIn(raised(whole_filling, web, fixed), (None, REFUSED))


class ThroughTest(unittest.TestCase):
    def test_through_small_boxes(self):
        seen = {True: 0, False: 0}
        for web, box in random_boxes(81, 150, 4, 5, 2, 0.15):
            if settings_by_hand(web, box) > 4096:
                continue
            rows = whole_rows(web, box)
            for tie in range(len(web.ties)):
                least, most = box.bounds[tie]
                for number in range(least - 1, most + 2):
                    through = whole_through(web, box, tie, number)
                    fit = [row for row in rows if row[tie] == number]
                    seen[bool(fit)] += 1
                    self.assertEqual(through is not None, bool(fit))
                    self.assertTrue(through is None or through in fit)
        self.assertTrue(min(seen.values()) > 200, seen)

    def test_between_ends(self):
        """Each whole number between exact ends without odd rings; within the end where there is no ring, or on it."""
        seen = 0
        for web, box in random_boxes(82, 250, 4, 5, 3, 0.3):
            if odd_components(web) or not half_rows(web, box):
                continue
            end, ends = tightened(web, box), all_ends(web, box)
            rings = [number for ring in all_rings(web) for number in ring]
            for tie in range(len(web.ties)):
                self.assertEqual((ends[tie][0] % 2, ends[tie][1] % 2), (0, 0))
                told = range(ends[tie][0] // 2, ends[tie][1] // 2 + 1)
                for number in told:
                    self.assertEqual(whole_through(web, box, tie, number)[tie], number)
                if max(ring_count(web)) == 0 or (max(ring_count(web)) == 1 and tie in rings):
                    seen += 1
                    self.assertEqual((told[0], told[-1]), end.bounds[tie])
        self.assertGreater(seen, 60)

    def test_off_the_ring_it_may_be_otherwise(self):
        web = Web(2, [(0, 1, 1, -1), (0, 1, 1, -1), (0, 1)])
        box = Box(web, [(0, 3), (0, 3), (-2, 2)], (2, -1))
        self.assertEqual([x for x in range(-2, 3) if whole_through(web, box, 2, x) is not None], [1])
        self.assertEqual(tightened(web, box).bounds[2], (0, 2))

    def test_errors(self):
        numbers = [(value, error(InvalidValue, at=-1)) for value in NO_INTEGERS]
        wrong = [no_webs(), no_boxes(KNOT), no_ties(KNOT), numbers]
        for box in (knot_box(2, 2), knot_box(BIG, BIG)):
            check_errors(self, whole_through, [KNOT, box, 1, 5], wrong)
            for call in (whole_filling, whole_paper):
                check_errors(self, call, [KNOT, box], wrong[:2])
            for call in (is_whole_filling, whole_holds):
                check_errors(self, call, [KNOT, box, None], wrong[:2] + [[]])
        self.assertIsNone(whole_through(TRIANGLE, OTHER, 0, 10 ** 30))
        self.assertIsNone(whole_through(TRIANGLE, OTHER, 0, -1))
        self.assertIsNone(whole_through(TRIANGLE, OTHER, 0, 2))
        self.assertIsNone(whole_through(TRIANGLE, OTHER, 0, 1))
        self.assertEqual(whole_through(TRIANGLE, OTHER, 0, 0), (0, 1, 1))


class JudgeTest(unittest.TestCase):
    def test_other_trees(self):
        """Trees parted elsewhere, and with more partings than are wanted."""
        leaf = ("signs", (1, 1))
        full = Box(PIPES, [(0, 2)] * 3, (4, -2))
        for tree in (leaf, ("parted", 0, 0, leaf, leaf), ("parted", 2, 1, leaf, ("parted", 0, 1, leaf, leaf))):
            self.assertIs(whole_holds(PIPES, full, ("none", tree)), True)
        for tree in (("parted", 0, 2, leaf, leaf), ("parted", 0, -1, leaf, leaf), ("parted", 3, 0, leaf, leaf),
                     ("parted", 0, 0, leaf), ("parted", 0, 0, leaf, leaf, leaf), ("parted", 0, 0, leaf, ("signs", (1, -1))),
                     ("parted", 0, 0, [*leaf], leaf), ("parted", True, 0, leaf, leaf), ("parted", 0, False, leaf, leaf),
                     ("parted", 0, 0, ("parted", 0, 0, leaf, leaf), leaf), ["parted", 0, 0, leaf, leaf], (1, 1), None,
                     ("parted", -1, 0, leaf, leaf), ("parted", 0, 0, ("parted", 0, 1, leaf, leaf), leaf)):
            self.assertIs(whole_holds(PIPES, full, ("none", tree)), False, tree)
        deep = leaf
        wide = Box(PIPES, [(0, BIG), (0, 2), (0, 2)], (4, 10 ** 20))
        for number in range(29, -1, -1):
            deep = ("parted", 0, number, ("signs", (0, 1)), deep)
        self.assertIs(whole_holds(PIPES, wide, ("none", deep)), tree_by_hand(PIPES, wide, deep))
        self.assertIs(whole_holds(PIPES, Box(PIPES, wide.bounds, (4, -4)), ("none", deep)), False)

    def test_near_papers(self):
        seen = {"filling": 0, "none": 0}
        rng = random.Random(83)
        for seed in range(60):
            points = rng.randint(2, 4)
            web = random_web(rng, points, points + 1 + seed % 3, 0.1 * (seed % 2))
            box = Box(web, [(0, 1)] * len(web.ties), [rng.randint(-1, 2) for _ in range(points)])
            paper = whole_paper(web, box)
            seen[paper[0]] += 1
            for value in spoiled_sample(paper, seed, 120):
                self.assertIs(whole_holds(web, box, value), holds_by_hand(web, box, value), value)
            for value in spoiled_sample(paper[1], seed, 40):
                self.assertIs(is_whole_filling(web, box, value), fills_by_hand(web, box, value, 1), value)
        self.assertTrue(min(seen.values()) > 5, seen)

    def test_parted_anywhere(self):
        """All partings of the triangle by one tie, with all signs."""
        held = 0
        rows = list(itertools.product((-1, 0, 1), repeat=3))
        for tie, number in itertools.product(range(3), range(-1, 2)):
            for one, other in itertools.product(rows, repeat=2):
                value = ("none", ("parted", tie, number, ("signs", one), ("signs", other)))
                told = whole_holds(TRIANGLE, ONE, value)
                self.assertIs(told, holds_by_hand(TRIANGLE, ONE, value))
                held += told
        self.assertEqual(held, 3)

    def test_any_value(self):
        for value in JUNK:
            for told in (value, ("none", value), ("filling", value), ("none", ("signs", value)),
                         ("none", ("parted", 0, 0, value, value)), ("none", ("parted", value, value, value, value))):
                for web, box in ((TRIANGLE, ONE), (TRIANGLE, OTHER)):
                    self.assertIs(whole_holds(web, box, told), holds_by_hand(web, box, told), told)
                    self.assertIs(is_whole_filling(web, box, told), False)


if __name__ == "__main__":
    unittest.main()
