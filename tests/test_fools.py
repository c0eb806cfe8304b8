"""[35] to [38]: built boxes, what fools the courts and why."""

import itertools
import random
import unittest

from pushtells.boxes import Box, cut_box
from pushtells.courts import court2, court2_paper, court3, court3_paper
from pushtells.ends import all_ends
from pushtells.errors import InvalidPaper, InvalidSize, Refused
from pushtells.fools import built_box, fools_holds, fools_paper, level_piece
from pushtells.pieces import court1, court1_paper
from pushtells.tighten import is_still, looked_at, tightened
from pushtells.webs import Web, side_by_side
from pushtells.whole import whole_paper
from tests.helpers import (JUNK, NO_INTEGERS, PIPES, TRIANGLE, all_rings, all_signs, are_signs, bad_pieces,
                           check_errors, ends_of, error, fills_by_hand, great_boxes, half_rows, hangs, no_boxes, no_signs, no_webs, points_in, pull_of, raised, random_boxes, random_web,
                           random_webs, shows_by_hand, sign_of, spoiled_sample, told_as, whole_rows)
from tests.sorts import all_way_papers, is_odd, is_piece, is_way
from tests.test_whole import KNOT, half_box, knot_box, tree_by_hand

BIG = 10 ** 18
FULL = Box(PIPES, [(0, 2)] * 3, (4, -2))
HALVES = Box(TRIANGLE, [(0, 1)] * 3, (1, 1, 1))
LEAKY = Web(2, [(0, 1, 1, -1), (0, 1, 1, -1), (0, 1)])
# Three odd rings of two ties, each of which wants a tie of the last point, which has but one for them.
STAR = Web(7, [(at, 1, at + 1, sign) for at in (0, 2, 4) for sign in (1, -1)] + [(at, 1, 6, 1) for at in (0, 2, 4)])
STAR_BOX = Box(STAR, [(0, 1)] * 9, (1, 0, 1, 0, 1, 0, 1))
COURTS = (court1, court2, court3)


def is_against(web, paper):
    """Whether it holds as a paper of "odd", "piece", "no" or "way"."""
    if told_as(paper, "no", 3):
        return is_piece(web, ("piece",) + paper[1:])
    return is_odd(web, paper) or is_piece(web, paper) or is_way(web, paper)


def sign_there(tie, point):
    return tie[1] if tie[0] == point else tie[3]


def built_by_hand(web, paper):
    """Word by word."""
    bounds, totals = [(0, 0)] * len(web.ties), [0] * web.points
    if paper[0] == "odd":
        for number in paper[1]:
            bounds[number] = (0, 1)
        for point in points_in(web, paper[1]):
            totals[point] = sum(sign_there(web.ties[x], point) for x in paper[1] if point in ends_of(web, x)) // 2
    elif paper[0] == "way":
        here = {point for number in paper[1] for point in ends_of(web, number)}
        for number in paper[1]:
            bounds[number] = (-1, 1)
        point, pair = [x for x in (web.ties[paper[2][0]][0], web.ties[paper[2][0]][-2]) if x in here][0], (0, 1)
        for number, behind in itertools.zip_longest(paper[2], paper[2][1:]):
            bounds[number] = pair
            if behind is not None:
                point = sum(ends_of(web, number)) - point
                if sign_there(web.ties[number], point) == sign_there(web.ties[behind], point):
                    pair = {(0, 1): (-1, 0), (-1, 0): (0, 1)}[pair]
    else:
        left = list(paper[1])
        while True:
            alone = [x for x in left if any(sum(p in ends_of(web, y) for y in left) == 1 for p in ends_of(web, x))]
            if not alone:
                break
            left = [x for x in left if x not in alone]
        for number in left:
            bounds[number] = (0, 2)
        for point in points_in(web, left):
            here = [sign_there(web.ties[x], point) for x in left if point in ends_of(web, x)]
            totals[point] = sum(here) + paper[2][point] * (len(here) - 2)
    return Box(web, bounds, totals)


def moves_by_hand(web, box, point):
    return looked_at(web, box, point) != box


def is_reason(web, box, which, value):
    if which == 1:
        return shows_by_hand(web, box, value)
    if which == 3:
        if type(value) is not tuple or len(value) != 3 or type(value[0]) is not int or type(value[1]) is not int:
            return False
        if not 0 <= value[0] < len(web.ties) or not box.bounds[value[0]][0] <= value[1] <= box.bounds[value[0]][1]:
            return False
        return shows_by_hand(web, cut_box(web, box, value[0], value[1], value[1]), value[2])
    if told_as(value, "odd", 2):
        if not are_signs(web, value[1]):
            return False
        due = sum(sign * total for sign, total in zip(value[1], box.totals))
        for tie, (least, most) in zip(web.ties, box.bounds):
            if pull_of(tie, value[1]) % 2:
                if least != most:
                    return False
                due -= pull_of(tie, value[1]) * least
        return due % 2 == 1
    if told_as(value, "signs", 2):
        return shows_by_hand(web, box, value[1])
    return told_as(value, "none", 2) and tree_by_hand(web, box, value[1])


def holds_by_hand(web, box, which, value):
    if told_as(value, "moves", 2):
        return type(value[1]) is int and 0 <= value[1] < web.points and moves_by_hand(web, box, value[1])
    if any(moves_by_hand(web, box, point) for point in range(web.points)):
        return False
    if told_as(value, "fools", 2):
        return is_reason(web, box, which, value[1])
    if which == 1:
        return told_as(value, "filled", 2) and fills_by_hand(web, box, value[1])
    if which == 2:
        return told_as(value, "whole", 2) and fills_by_hand(web, box, value[1], 1)
    if not told_as(value, "held", 2) or type(value[1]) is not tuple or len(value[1]) != len(web.ties):
        return False
    for tie, pair in enumerate(value[1]):
        if type(pair) is not tuple or len(pair) != 2:
            return False
        for row, number in zip(pair, box.bounds[tie]):
            if not fills_by_hand(web, box, row) or row[tie] != 2 * number:
                return False
    return True


def papers_against(web):
    """All papers against a small web, of each sort."""
    found = [("odd", ring) for ring in all_rings(web) if sign_of(web, ring) == -1]
    for row, rows in bad_pieces(web).items():
        found += [(word, row, signs) for signs in rows for word in ("piece", "no")]
    return found + all_way_papers(web)


class BuiltTest(unittest.TestCase):
    def test_by_hand(self):
        box = built_box(PIPES, ("piece", (0, 1, 2), (1, 1)))
        self.assertEqual((box.bounds, box.totals), (((0, 2),) * 3, (4, -2)))
        self.assertEqual(built_box(PIPES, ("piece", (0, 1, 2), (-1, -1))).totals, (2, -4))
        self.assertEqual(built_box(PIPES, court1_paper(PIPES)).bounds, ((0, 2), (0, 2), (0, 2)))
        box = built_box(TRIANGLE, ("odd", (0, 1, 2)))
        self.assertEqual((box.bounds, box.totals), (((0, 1),) * 3, (1, 1, 1)))
        box = built_box(LEAKY, ("way", (0, 1), (2,)))
        self.assertEqual((box.bounds, box.totals), (((-1, 1), (-1, 1), (0, 1)), (0, 0)))

    def test_what_hangs_on_a_piece_is_struck(self):
        web = Web(5, [(0, 1, 1, -1)] * 3 + [(1, 1, 2, -1), (2, 1, 3, 1), (3, 1), (4, 1)])
        box = built_box(web, ("piece", (0, 1, 2, 3, 4), (1, 1, 1, -1, 0)))
        self.assertEqual((box.bounds, box.totals), (((0, 2),) * 3 + ((0, 0),) * 4, (4, -2, 0, 0, 0)))

    def test_the_way_hands_on(self):
        web = Web(4, [(0, 1, 1, -1), (0, 1, 1, -1), (1, 1, 2, 1), (2, -1, 3, 1), (3, 1)])
        box = built_box(web, ("way", (1, 0), (2, 3, 4)))
        self.assertEqual(box.bounds, ((-1, 1), (-1, 1), (0, 1), (0, 1), (-1, 0)))
        self.assertEqual(box.totals, (0, 0, 0, 0))

    def test_all_papers_of_small_webs(self):
        """Still; of a piece nothing fills, its signs show; of a ring halves alone; of a way its first tie is 0."""
        seen = {}
        for web in random_webs(101, 120, 4, 5, 0.3):
            papers = papers_against(web)
            for paper in papers[:12] + papers[-12:]:
                box = built_box(web, paper)
                self.assertEqual(box, built_by_hand(web, paper))
                self.assertIs(is_still(web, box), True)
                seen[paper[0]] = seen.get(paper[0], 0) + 1
                rows = half_rows(web, box)
                if paper[0] in ("piece", "no"):
                    self.assertEqual(rows, [])
                    self.assertTrue(shows_by_hand(web, box, paper[2]))
                    self.check_fooled(web, box, (1, 2, 3), paper)
                elif paper[0] == "odd":
                    told = tuple(1 if at in paper[1] else 0 for at in range(len(web.ties)))
                    self.assertEqual(rows, [told])
                    signs = tuple(int(point in points_in(web, paper[1])) for point in range(web.points))
                    self.assertIs(fools_holds(web, box, 2, ("fools", ("odd", signs))), True)
                    self.check_fooled(web, box, (2, 3), paper)
                else:
                    self.assertTrue(rows)
                    self.assertEqual({row[paper[2][0]] for row in rows}, {0})
                    self.check_way_reason(web, box, paper)
                    self.check_fooled(web, box, (3,), paper)
        self.assertTrue(len(seen) == 4 and min(seen.values()) > 5, seen)

    def check_fooled(self, web, box, courts, paper):
        for which in courts:
            told = fools_paper(web, box, which)
            self.assertEqual(told[0], "fools", paper)
            self.assertIs(fools_holds(web, box, which, told), True)

    def check_way_reason(self, web, box, paper):
        """Its first tie, the value 1, and the ring's signs, so turned that they pull this tie by -1."""
        tie = paper[2][0]
        lot = points_in(web, paper[1])
        for signs in all_signs(web):
            if [point for point, sign in enumerate(signs) if sign] == lot and pull_of(web.ties[tie], signs) == -1:
                if all(pull_of(web.ties[number], signs) == 0 for number in paper[1]):
                    self.assertIs(fools_holds(web, box, 3, ("fools", (tie, 1, signs))), True)
                    return
        self.fail(paper)

    def test_wrong_papers(self):
        for web in (PIPES, TRIANGLE, LEAKY):
            values = JUNK + [("no", (0, 1), (1, 1)), ("yes", (1, 1)), ("piece", [0, 1, 2], (1, 1)), ("odd", [0, 1, 2]),
                             ["odd", (0, 1, 2)], ("way", (0, 1), [2]), ("way", (0, 1), ()), ("odd", (0, 1)), ("odd",)]
            for value in values:
                if not is_against(web, value):
                    self.assertEqual(raised(built_box, web, value), error(InvalidPaper, at=-1), value)
        for seed, web in enumerate(random_webs(102, 60, 4, 5, 0.3)):
            for paper in papers_against(web)[:3] + papers_against(web)[-2:]:
                for value in spoiled_sample(paper, seed, 40):
                    told = raised(built_box, web, value)
                    if is_against(web, value):
                        self.assertEqual(told, built_by_hand(web, value))
                    else:
                        self.assertEqual(told, error(InvalidPaper, at=-1), value)
        check_errors(self, built_box, [PIPES, court1_paper(PIPES)],
                     [no_webs(), [(value, error(InvalidPaper, at=-1)) for value in JUNK]])

    def test_great_webs(self):
        for web, _ in great_boxes(103):
            for paper, which in ((court1_paper(web), 1), (court2_paper(web), 2)):
                box = built_box(web, paper)
                told = fools_paper(web, box, which)
                self.assertEqual((told[0], fools_holds(web, box, which, told)), ("fools", True))
        ring = Web(150, [(at, 1, (at + 1) % 150, 1) for at in range(150)] + [(0, 1)])
        box = built_box(ring, court3_paper(ring))
        self.assertEqual((is_still(ring, box), box.bounds), (True, ((-1, 1),) * 150 + ((0, 1),)))


class LevelTest(unittest.TestCase):
    def test_by_hand(self):
        self.assertIn(level_piece(PIPES, FULL, (1, 1)), [(width, (0, 1, 2), (1, 1)) for width in (1, 2)])
        wide = Box(PIPES, [(0, 2 * BIG)] * 3, (4 * BIG, -2 * BIG))
        width, ties, signs = level_piece(PIPES, wide, [1, 1])
        self.assertTrue(1 <= width <= 2 * BIG)
        self.assertEqual((ties, signs), ((0, 1, 2), (1, 1)))

    def test_a_ring_beside_is_no_piece(self):
        web = side_by_side(Web(2, [(0, 1, 1, -1)] * 2), PIPES)
        box = Box(web, [(0, 2)] * 5, (2, -2, 4, -2))
        self.check_level(web, box, (1, 1, 1, 1))
        self.assertEqual(level_piece(web, box, (-1, -1, 1, 1))[1:], ((2, 3, 4), (0, 0, 1, 1)))

    def test_narrow_ties_are_left_out(self):
        """A narrow even ring hangs on the piece by a narrow tie."""
        web = Web(4, [(0, 1, 1, -1)] * 3 + [(1, 1, 2, -1), (2, 1, 3, -1), (2, 1, 3, -1)])
        box = Box(web, [(0, 8)] * 3 + [(0, 0), (0, 2), (0, 2)], (16, -8, 2, -2))
        self.check_level(web, box, (1, 1, 1, 1))

    def test_all_signs_that_show_still_boxes(self):
        seen = 0
        rng = random.Random(104)
        for web in random_webs(105, 250, 5, 8, 0.1):
            pieces = bad_pieces(web) if len(web.ties) < 9 else {}
            for row in list(pieces)[:3]:
                box = built_box(web, ("piece", row, pieces[row][0]))
                sizes = rng.randint(1, 5)
                wide = Box(web, [(sizes * least, sizes * most) for least, most in box.bounds],
                           [sizes * total for total in box.totals])
                for signs in all_signs(web):
                    if not shows_by_hand(web, wide, signs):
                        self.assertEqual(raised(level_piece, web, wide, signs), error(Refused, at="signs"))
                        continue
                    seen += 1
                    self.check_level(web, wide, signs)
        self.assertGreater(seen, 100)

    def check_level(self, web, box, signs):
        width, ties, told = level_piece(web, box, signs)
        self.assertEqual((type(width), ties, width > 0), (int, tuple(sorted(ties)), True))
        points = points_in(web, ties)
        self.assertEqual(told, tuple(sign if point in points else 0 for point, sign in enumerate(signs)))
        self.assertTrue(hangs(web, ties) and len(ties) > len(points))
        for number in ties:
            least, most = box.bounds[number]
            self.assertGreaterEqual(most - least, width)
            self.assertTrue(len(web.ties[number]) == 4 and pull_of(web.ties[number], signs) == 0)
        self.assertTrue(all(told[point] != 0 for point in points))

    def test_still_boxes_of_all_sorts(self):
        """Boxes of wider and narrower ties that looks leave, and that nothing fills."""
        rng = random.Random(106)
        seen = 0
        for _ in range(3000):
            web = random_web(rng, rng.randint(2, 4), rng.randint(3, 6), 0.1)
            bounds = [(0, rng.choice((0, 2, 2, 4, 6))) for _ in web.ties]
            totals = [0] * web.points
            for tie, pair in zip(web.ties, bounds):
                for at in range(0, len(tie), 2):
                    totals[tie[at]] += tie[at + 1] * pair[1] // 2
            box = tightened(web, Box(web, bounds, [total + rng.randint(-2, 2) for total in totals]))
            for signs in all_signs(web) if box is not None else []:
                if shows_by_hand(web, box, signs):
                    seen += 1
                    self.check_level(web, box, signs)
        self.assertGreater(seen, 30)

    def test_errors(self):
        check_errors(self, level_piece, [PIPES, FULL, (1, 1)], [no_webs(), no_boxes(PIPES), no_signs(PIPES)])
        moving = Box(PIPES, [(0, 2)] * 3, (9, 9))
        check_errors(self, level_piece, [PIPES, moving, (1, 1)], [no_webs(), no_boxes(PIPES), no_signs(PIPES)])
        self.assertEqual(raised(level_piece, PIPES, moving, (1, 1)), error(Refused, at="box"))
        for signs in ((0, 0), (1, 0), (-1, -1), [1, -1]):
            self.assertEqual(raised(level_piece, PIPES, FULL, signs), error(Refused, at="signs"))
            self.assertEqual(raised(level_piece, PIPES, moving, signs), error(Refused, at="box"))


class FoolsTest(unittest.TestCase):
    def test_by_hand(self):
        self.assertEqual(fools_paper(PIPES, FULL, 1), ("fools", (1, 1)))
        self.assertEqual(fools_paper(PIPES, FULL, 2), ("fools", ("signs", (1, 1))))
        self.assertEqual(fools_paper(TRIANGLE, HALVES, 1), ("filled", (1, 1, 1)))
        self.assertEqual(fools_paper(TRIANGLE, HALVES, 2), ("fools", ("odd", (1, 1, 1))))
        box = Box(PIPES, [(0, 2)] * 3, (9, -2))
        for which in (1, 2, 3):
            self.assertEqual(fools_paper(PIPES, box, which), ("moves", 0))
            self.assertEqual([fools_holds(PIPES, box, which, ("moves", point)) for point in (0, 1, 2, -1)],
                             [True, False, False, False])
        both = Box(PIPES, [(0, 2)] * 3, (9, 9))
        self.assertEqual([fools_holds(PIPES, both, 1, ("moves", point)) for point in (0, 1)], [True, True])
        self.assertEqual(fools_paper(PIPES, both, 1), ("moves", 0))
        self.assertEqual(fools_paper(PIPES, Box(PIPES, [(0, 2)] * 3, (3, 9)), 1), ("moves", 1))
        alone = Web(2, [])
        self.assertEqual(fools_paper(alone, Box(alone, [], (0, 5)), 3), ("moves", 1))
        self.assertEqual([fools_paper(alone, Box(alone, [], (0, 0)), which) for which in (1, 2, 3)],
                         [("filled", ()), ("whole", ()), ("held", ())])

    def test_still_boxes(self):
        seen = {}
        rng = random.Random(107)
        boxes = random_boxes(108, 400, 4, 4, 2, 0.2)
        boxes += [(web, half_box(web, rng.choice((1, 2)) if len(web.ties) < 5 else 1))
                  for web in random_webs(109, 500, 4, 6, 0.1)]
        for web, box in boxes:
            end = tightened(web, box)
            for told in [box] + ([end] if end is not None else []):
                for which in (1, 2, 3):
                    paper = raised(fools_paper, web, told, which)
                    if paper == error(InvalidSize, word="settings"):
                        continue
                    self.assertIs(fools_holds(web, told, which, paper), True)
                    self.assertTrue(holds_by_hand(web, told, which, paper), paper)
                    self.check_word(web, told, which, paper)
                    key = (which, paper[0], paper[1][0] if paper[0] == "fools" and which == 2 else "")
                    seen[key] = seen.get(key, 0) + 1
        self.assertEqual(len(seen), 10, seen)

    def check_word(self, web, box, which, paper):
        """That it is the one that is due, whether anything fills being found by trying."""
        if not is_still(web, box):
            moving = [point for point in range(web.points) if moves_by_hand(web, box, point)]
            self.assertEqual(paper, ("moves", moving[0]))
            return
        fooled = [not half_rows(web, box), not whole_rows(web, box), None][which - 1]
        if which == 3:
            ends = all_ends(web, box)
            fooled = ends is None or any(pair != (2 * a, 2 * b) for pair, (a, b) in zip(ends, box.bounds))
        self.assertEqual(paper[0], "fools" if fooled else ("filled", "whole", "held")[which - 1])
        if fooled:
            self.assertIs(COURTS[which - 1](web), False)
        if fooled and which == 2:
            odd = [signs for signs in itertools.product((0, 1), repeat=web.points)
                   if is_reason(web, box, 2, ("odd", signs))]
            due = "signs" if not half_rows(web, box) else "odd" if odd else "none"
            self.assertEqual(paper[1][0], due)
            if due == "odd":
                self.assertIn(paper[1][1], odd)
                self.assertEqual(len([x for x in odd if all(a <= b for a, b in zip(x, paper[1][1]))]), 1)

    def test_trees(self):
        """A still box that halves fill, not fooled by parity, without a whole filling."""
        paper = fools_paper(STAR, STAR_BOX, 2)
        self.assertEqual((is_still(STAR, STAR_BOX), whole_rows(STAR, STAR_BOX)), (True, []))
        self.assertEqual((paper[0], paper[1][0]), ("fools", "none"))
        self.assertEqual(fools_paper(STAR, STAR_BOX, 1)[0], "filled")
        self.assertTrue(holds_by_hand(STAR, STAR_BOX, 2, paper))
        self.assertIs(fools_holds(STAR, STAR_BOX, 2, paper), True)
        for value in spoiled_sample(paper, 5, 400):
            self.assertIs(fools_holds(STAR, STAR_BOX, 2, value), holds_by_hand(STAR, STAR_BOX, 2, value), value)
        for which in (1, 3):
            self.assertIs(fools_holds(STAR, STAR_BOX, which, paper), False)
        more = Box(STAR, STAR_BOX.bounds[:-1] + ((0, 2),), STAR_BOX.totals[:-1] + (2,))
        self.assertEqual(fools_paper(STAR, more, 2)[0], "moves")

    def test_settings(self):
        """Refused only where a whole filling is what is asked."""
        box = knot_box(17, 241)
        end = tightened(KNOT, box)
        refused = error(InvalidSize, word="settings")
        self.assertEqual(raised(fools_paper, KNOT, end, 2), refused)
        self.assertEqual(fools_paper(KNOT, end, 1)[0], "filled")
        self.assertIn(fools_paper(KNOT, end, 3)[0], ("held", "fools"))
        self.assertEqual(fools_paper(KNOT, tightened(KNOT, knot_box(64, 64)), 2)[0], "whole")
        both = side_by_side(KNOT, PIPES)
        moving = Box(both, end.bounds + FULL.bounds, end.totals + (9, 9))
        self.assertEqual(fools_paper(both, moving, 2), ("moves", 2))
        empty = Box(both, end.bounds + FULL.bounds, end.totals + FULL.totals)
        paper = fools_paper(both, empty, 2)
        self.assertEqual((paper[0], paper[1][0], fools_holds(both, empty, 2, paper)), ("fools", "signs", True))
        odd = side_by_side(KNOT, TRIANGLE)
        told = Box(odd, end.bounds + HALVES.bounds, end.totals + HALVES.totals)
        self.assertEqual(fools_paper(odd, told, 2), ("fools", ("odd", (0, 0, 1, 1, 1))))
        row = (0,) + (end.bounds[1][0], end.bounds[2][0], 0, 0)
        self.assertIs(fools_holds(KNOT, end, 2, ("whole", row)), fills_by_hand(KNOT, end, row, 1))
        self.assertIs(fools_holds(KNOT, end, 2, ("fools", ("signs", (1, 1)))), False)

    def test_limit_of_ties(self):
        for ties, refused in ((40, False), (41, True)):
            web = Web(2, [(0, 1, 1, -1)] * 20 + [(0, 1)] * (ties - 20))
            box = Box(web, [(0, 1)] * ties, (ties // 2, -10))
            told = raised(fools_paper, web, box, 3)
            self.assertEqual(told == error(InvalidSize, word="ties"), refused)
            self.assertEqual([fools_paper(web, box, which)[0] for which in (1, 2)], ["filled", "whole"])
            if not refused:
                self.assertEqual((told[0], fools_holds(web, box, 3, told)), ("held", True))
            moving = Box(web, [(0, 1)] * ties, (99, 0))
            self.assertEqual(raised(fools_paper, web, moving, 3),
                             error(InvalidSize, word="ties") if refused else ("moves", 0))
            self.assertIs(fools_holds(web, moving, 3, ("moves", 0)), True)
            self.assertIs(fools_holds(web, box, 3, ("held", ())), False)

    def test_near_papers(self):
        rng = random.Random(110)
        boxes = [(web, tightened(web, box)) for web, box in random_boxes(111, 60, 3, 4, 2, 0.2)]
        boxes += [(web, half_box(web, 1)) for web in random_webs(112, 60, 3, 5, 0.1)]
        boxes += random_boxes(113, 20, 3, 4, 2, 0.2)
        for seed, (web, box) in enumerate(boxes):
            for which in (1, 2, 3) if box is not None else ():
                paper = fools_paper(web, box, which)
                others = [(word, paper[1]) for word in ("fools", "moves", "filled", "whole", "held")]
                for value in spoiled_sample(paper, seed, 40) + others + [("fools", (rng.choice(("signs", "odd")), paper[1]))]:
                    self.assertIs(fools_holds(web, box, which, value), holds_by_hand(web, box, which, value), value)

    def test_all_reasons_of_small_boxes(self):
        for web, box in [(PIPES, FULL), (TRIANGLE, HALVES), (LEAKY, Box(LEAKY, [(-1, 1), (-1, 1), (0, 1)], (0, 0)))]:
            for signs in all_signs(web):
                values = [("fools", signs), ("fools", ("odd", signs)), ("fools", ("signs", signs))]
                values += [("fools", (tie, x, signs)) for tie in range(-1, 4) for x in range(-2, 4)]
                values.append(("fools", ("none", whole_paper(web, box)[1])))
                values.append(("fools", ("none", ("signs", signs))))
                for which, value in itertools.product((1, 2, 3), values):
                    self.assertIs(fools_holds(web, box, which, value), holds_by_hand(web, box, which, value), value)

    def test_parity_tells_no_more(self):
        """Signs under which just equal bounds are pulled oddly have, on each lot, all points or none."""
        for web in random_webs(114, 80, 4, 5, 0.2):
            box = half_box(web, 1)
            odd = [signs for signs in all_signs(web) if is_reason(web, box, 2, ("odd", signs))]
            for signs in odd:
                self.assertTrue(is_reason(web, box, 2, ("odd", tuple(abs(sign) for sign in signs))))

    def test_any_value(self):
        for web, box in ((PIPES, FULL), (TRIANGLE, HALVES), (PIPES, Box(PIPES, [(0, 2)] * 3, (9, 9)))):
            for value in JUNK:
                for told in (value, ("moves", value), ("fools", value), ("filled", value), ("whole", value),
                             ("held", value), ("fools", ("odd", value)), ("fools", ("none", value)),
                             ("fools", (0, 1, value)), ("fools", (value, value, (1, 1))), ("held", (value,) * 3),
                             ("held", ((value, value),) * 3)):
                    for which in (1, 2, 3):
                        self.assertIs(fools_holds(web, box, which, told), holds_by_hand(web, box, which, told), told)

    def test_errors(self):
        whiches = [(value, error(InvalidSize, word="which")) for value in NO_INTEGERS + [0, 4, -1, BIG, "3"]]
        check_errors(self, fools_paper, [PIPES, FULL, 1], [no_webs(), no_boxes(PIPES), whiches])
        check_errors(self, fools_holds, [PIPES, FULL, 1, None], [no_webs(), no_boxes(PIPES), whiches, []])
        crowd = Web(1, [(0, 1)] * 41)
        check_errors(self, fools_paper, [crowd, Box(crowd, [(0, 0)] * 41, (0,)), 1], [[], [], whiches])

    def test_great_boxes(self):
        for web, box in great_boxes(115):
            end = tightened(web, box)
            told = fools_paper(web, end, 1)
            self.assertEqual((told[0], fools_holds(web, end, 1, told)), ("filled", True))
        for web, box in great_boxes(116, 2, 25, 40):
            end = tightened(web, box)
            told = fools_paper(web, end, 3)
            self.assertIs(fools_holds(web, end, 3, told), True)


if __name__ == "__main__":
    unittest.main()
