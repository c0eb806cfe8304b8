"""[49] to [55]: looks at further sums, which are needed, and the ends that they tell."""

import itertools
import random
import unittest
from fractions import Fraction

from pushtells.boxes import Box
from pushtells.ends import all_ends
from pushtells.errors import InvalidRows, InvalidSigns, InvalidSize, Refused
from pushtells.fillings import fill_paper
from pushtells.signs import shortage
from pushtells.sums import (cut_bounds, failing_sums, is_needed, lacking_sums, lone_box, look_lack, needed_count,
                            needed_part, needed_signs, split_holds, split_paper, sum_ends, sum_look)
from pushtells.webs import Web, components, side_by_side, turned
from pushtells.whole import whole_through
from tests.helpers import (JUNK, MIXED, NO_INTEGERS, NO_SEQUENCES, PIPES, TRIANGLE, all_rings, all_signs, are_signs,
                           check_errors, doubles, ends_of, error, filled_box, half_rows, integers, lots_by_hand,
                           no_boxes, no_rows, no_signs, no_webs, pull_of, raised, random_box, random_boxes,
                           random_forest, random_web, random_webs, sign_of, spoiled_sample)
from tests.ranks import pulls, rank

BIG = 10 ** 18
NEEDED = ((1, -1, -1), (1, -1, 1), (1, 1, -1))
HALVES = Box(TRIANGLE, [(0, 1)] * 3, (1, 1, 1))
FULL = Box(PIPES, [(0, 2)] * 3, (4, -2))
PAIR = Web(2, [(0, 1, 1, -1)] * 2)


def sum_signs(web):
    return [signs for signs in all_signs(web) if any(signs)]


def look_by_hand(web, box, signs):
    each = [sorted(pull * x for x in pair) for pull, pair in zip(pulls(web, signs), box.bounds)]
    return sum(x for x, _ in each), sum(s * t for s, t in zip(signs, box.totals)), sum(x for _, x in each)


def lack_by_hand(web, box, signs):
    least, total, greatest = look_by_hand(web, box, signs)
    return max(0, total - greatest, least - total)


def is_closed_even(web, lot, ties):
    """Whether some signs at all points of the lot pull at none of the ties."""
    for chosen in itertools.product((1, -1), repeat=len(lot)):
        signs = [0] * web.points
        for point, sign in zip(lot, chosen):
            signs[point] = sign
        if all(pull_of(web.ties[tie], signs) == 0 for tie in ties):
            return True
    return False


def at_ends(web, tie):
    told = web.ties[tie]
    return [told[at] for at in range(0, len(told), 2)]


def inner(web, lot):
    return [tie for tie in range(len(web.ties)) if at_ends(web, tie)[0] in lot]


def needed_by_hand(web, signs):
    """Word by word."""
    points = [point for point, sign in enumerate(signs) if sign]
    home = [lot for lot in lots_by_hand(web) if points[0] in lot][0]
    if not set(points) <= set(home):
        return False
    cancel = [tie for tie in doubles(web) if set(ends_of(web, tie)) <= set(points) and pulls(web, signs)[tie] == 0]
    if tuple(points) not in lots_by_hand(web, cancel):
        return False
    others = [point for point in home if point not in points]
    clear = [tie for tie in range(len(web.ties)) if not set(at_ends(web, tie)) & set(points)]
    lots = [lot for lot in lots_by_hand(web, [tie for tie in clear if tie in doubles(web)]) if set(lot) <= set(others)]
    if is_closed_even(web, home, inner(web, home)):
        return len(lots) < 2
    return not any(is_closed_even(web, lot, [tie for tie in clear if at_ends(web, tie)[0] in lot]) for lot in lots)


def needed_looks(web):
    """Each needed look once, as [50] tells it."""
    found = []
    for signs in sum_signs(web):
        least = [point for point, sign in enumerate(signs) if sign][0]
        home = [lot for lot in lots_by_hand(web) if least in lot][0]
        told = not is_closed_even(web, home, inner(web, home)) or least == home[0]
        if signs[least] == 1 and told and needed_by_hand(web, signs):
            found.append(signs)
    return tuple(found)


def split_by_hand(web, signs, value):
    if type(value) is not tuple or len(value) != 3 or type(value[0]) is not int or value[0] not in (1, 2):
        return False
    times, one, other = value
    if not are_signs(web, one) or not are_signs(web, other) or not any(one) or not any(other):
        return False
    if [x + y for x, y in zip(one, other)] != [times * x for x in signs]:
        return False
    if any(x * y < 0 for x, y in zip(pulls(web, one), pulls(web, other))):
        return False
    if not any(x and y for x, y in zip(one, other)):
        return True
    many = len([x for x in pulls(web, signs) if x])
    return all(len([x for x in pulls(web, row) if x]) < many for row in (one, other))


def cut_by_hand(web, box, rows):
    """Each tie by each sum that pulls at it, by fractions, from the bounds as they are."""
    bounds = [[Fraction(2 * x) for x in pair] for pair in box.bounds]
    for row in rows:
        least, total, greatest = look_by_hand(web, box, row)
        if not least <= total <= greatest:
            return None
        for tie, pull in enumerate(pulls(web, row)):
            if pull:
                others = [sorted(p * x for x in pair) for at, (p, pair) in
                          enumerate(zip(pulls(web, row), box.bounds)) if at != tie]
                ends = sorted([Fraction(2 * (total - sum(x for x, _ in others)), pull),
                               Fraction(2 * (total - sum(x for _, x in others)), pull)])
                bounds[tie] = [max(bounds[tie][0], ends[0]), min(bounds[tie][1], ends[1])]
    if any(least > most for least, most in bounds):
        return None
    return tuple((int(least), int(most)) for least, most in bounds)


def wholes(web):
    return [signs for signs in needed_looks(web) if not any(pulls(web, signs))]


def lacks(web, rows, signs):
    """Whether the rows lack needed signs, by ranks of fractions."""
    if not any(pulls(web, signs)):
        level = [row for row in rows if not any(pulls(web, row))]
        return rank(level + [signs]) > rank(level)
    others = [row for row in wholes(web)]
    for row in rows:
        if rank(others + [row]) > rank(others) and rank(others + [row, signs]) == rank(others + [row]):
            return False
    return True


def some_rows(rng, web):
    rows = [signs for signs in sum_signs(web)]
    return [rng.choice(rows) for _ in range(rng.randint(0, 6))]


class LookTest(unittest.TestCase):
    def test_by_hand(self):
        box = Box(TRIANGLE, [(0, 0), (-99, 99), (-99, 99)], (0, 1, 0))
        self.assertEqual(sum_look(TRIANGLE, box, (1, 1, -1)), (0, 1, 0))
        self.assertEqual(look_lack(TRIANGLE, box, (1, 1, -1)), 1)
        self.assertEqual(look_lack(TRIANGLE, box, (-1, -1, 1)), 1)
        self.assertEqual(sum_look(TRIANGLE, box, [-1, -1, 1]), (0, -1, 0))
        self.assertEqual(sum_look(TRIANGLE, box, (1, 0, 0)), (-99, 0, 99))
        self.assertEqual(look_lack(TRIANGLE, box, (1, 0, 0)), 0)
        self.assertEqual(sum_look(PIPES, FULL, (1, 1)), (0, 2, 0))
        self.assertEqual(look_lack(PIPES, FULL, (1, 1)), 2)
        big = Box(PIPES, [(-BIG, BIG)] * 3, (10 ** 21, 0))
        self.assertEqual(sum_look(PIPES, big, (1, 0)), (-3 * BIG, 10 ** 21, 3 * BIG))
        self.assertEqual(look_lack(PIPES, big, (-1, 0)), 10 ** 21 - 3 * BIG)

    def test_looks(self):
        for web, box in random_boxes(181, 120, 4, 6, 4):
            for signs in sum_signs(web):
                self.assertEqual(sum_look(web, box, signs), look_by_hand(web, box, signs))
                lack = look_lack(web, box, signs)
                self.assertEqual(lack, lack_by_hand(web, box, signs))
                about = tuple(-sign for sign in signs)
                self.assertEqual(lack, look_lack(web, box, about))
                self.assertEqual(lack, max(0, shortage(web, box, signs), shortage(web, box, about)))

    def test_errors(self):
        wrong = [no_webs(), no_boxes(TRIANGLE), no_signs(TRIANGLE, True)]
        for call in (sum_look, look_lack, needed_part):
            check_errors(self, call, [TRIANGLE, HALVES, (1, 1, 1)], wrong)


class NeededTest(unittest.TestCase):
    def test_by_hand(self):
        self.assertEqual(needed_signs(TRIANGLE), NEEDED)
        self.assertEqual(needed_count(TRIANGLE), 3)
        for signs in sum_signs(TRIANGLE):
            self.assertIs(is_needed(TRIANGLE, signs), signs in NEEDED or tuple(-x for x in signs) in NEEDED)
        self.assertEqual(needed_signs(PIPES), ((1, 0), (1, 1)))
        self.assertEqual([is_needed(PIPES, [0, -1]), is_needed(PIPES, (1, -1)), is_needed(PIPES, (-1, -1))],
                         [True, False, True])
        self.assertEqual(needed_signs(Web(1, [])), ((1,),))
        self.assertEqual(needed_signs(Web(2, [(0, 1)])), ((0, 1), (1, 0)))

    def test_the_side_of_the_least_point(self):
        """A path of four points: each tie parts it, and the whole sum."""
        path = Web(4, [(3, 1, 1, -1), (1, 1, 0, 1), (0, 1, 2, -1)])
        self.assertEqual(needed_signs(path), ((1, -1, 0, -1), (1, -1, 1, -1), (1, -1, 1, 0), (1, 0, 1, 0)))
        self.assertIs(is_needed(path, (0, 0, 0, -1)), True)
        self.assertIs(is_needed(path, (1, 0, 0, 0)), False)

    def test_needed_signs_of_small_webs(self):
        for web in random_webs(182, 250, 4, 7, 0.2) + random_webs(183, 25, 5, 8, 0.1) + [MIXED]:
            looks = needed_looks(web) if web.points < 6 else needed_signs(web)
            self.assertEqual(needed_signs(web), looks)
            self.assertEqual(needed_count(web), len(looks))
            for signs in sum_signs(web):
                self.assertIs(is_needed(web, signs), needed_by_hand(web, signs), (web.ties, signs))

    def test_counts(self):
        """As many as points just where alike ties are one, and then trees, or one odd ring or loose tie each."""
        few = 0
        for web in random_webs(184, 300, 5, 6, 0.2):
            many = needed_count(web)
            self.assertGreaterEqual(many, web.points)
            alone = {}
            for tie in web.ties:
                told = tie if tie[1] == 1 else tuple(-x if at % 2 else x for at, x in enumerate(tie))
                alone[told] = True
            bare = Web(web.points, list(alone))
            fit = all(self.is_bare(bare, lot) for lot in components(bare))
            self.assertEqual(many == web.points, fit)
            few += fit
        self.assertTrue(30 < few < 270, few)

    def is_bare(self, web, lot):
        """A tree, a tree with one loose tie, or one ring, an odd one, and no loose tie."""
        ties = inner(web, lot)
        rings = {frozenset(ring): sign_of(web, ring) for ring in all_rings(web) if ring[0] in ties}
        loose = [tie for tie in ties if tie not in doubles(web)]
        return (not rings and len(loose) < 2) or (list(rings.values()) == [-1] and not loose)

    def test_rings(self):
        for many in range(2, 11):
            ring = Web(many, [(at, 1, (at + 1) % many, -1) for at in range(many)])
            self.assertEqual(needed_count(ring), many * (many - 1) // 2 + 1)
            self.assertEqual(needed_count(turned(ring, list(range(0, many, 2)))), many * (many - 1) // 2 + 1)

    def test_single_balances_are_enough_where_no_tie_has_two_ends(self):
        for web in random_webs(185, 80, 4, 3, 0.6):
            single = [tuple(int(at == point) for at in range(web.points)) for point in range(web.points)]
            self.assertEqual(lacking_sums(web, single) == (), not doubles(web))

    def test_limits(self):
        rng = random.Random(186)
        web = random_web(rng, 10, 24, 0.1)
        box = filled_box(rng, web, BIG)
        looks = needed_signs(web)
        self.assertEqual((needed_count(web), len(set(looks)), list(looks)), (len(looks), len(looks), sorted(looks)))
        self.assertTrue(all(is_needed(web, signs) for signs in looks[::50]))
        self.assertEqual(failing_sums(web, box), ())
        self.assertEqual(sum_ends(web, box), all_ends(web, box))
        self.assertEqual(lacking_sums(web, looks), ())
        over = Web(11, web.ties)
        wide = Box(over, box.bounds, box.totals + (0,))
        empty = Box(over, box.bounds, box.totals + (1,))
        refused = error(InvalidSize, word="points")
        told = [raised(needed_signs, over), raised(needed_count, over), raised(failing_sums, over, wide),
                raised(sum_ends, over, wide), raised(sum_ends, over, empty), raised(lacking_sums, over, ())]
        self.assertEqual(told, [refused] * 6)

    def test_errors(self):
        big = Web(11, TRIANGLE.ties)
        box = Box(big, [(0, 1)] * 3, (1,) * 11)
        for web in (TRIANGLE, big):
            signs = (1,) * web.points
            check_errors(self, is_needed, [web, signs], [no_webs(), no_signs(web, True)])
            check_errors(self, split_paper, [web, signs], [no_webs(), no_signs(web, True)])
            check_errors(self, split_holds, [web, signs, None], [no_webs(), no_signs(web, True), []])
            for call in (needed_signs, needed_count):
                check_errors(self, call, [web], [no_webs()])
        for call in (failing_sums, sum_ends):
            check_errors(self, call, [TRIANGLE, HALVES], [no_webs(), no_boxes(TRIANGLE)])
            check_errors(self, call, [big, box], [no_webs(), no_boxes(big)])


class FailingTest(unittest.TestCase):
    def test_by_hand(self):
        box = Box(TRIANGLE, [(0, 0), (-99, 99), (-99, 99)], (0, 1, 0))
        self.assertEqual(failing_sums(TRIANGLE, box), ((1, 1, -1),))
        self.assertEqual(failing_sums(TRIANGLE, HALVES), ())
        self.assertEqual(failing_sums(PIPES, FULL), ((1, 1),))
        self.assertEqual(failing_sums(PIPES, Box(PIPES, [(0, 2)] * 3, (9, -9))), ((1, 0),))
        self.assertEqual(failing_sums(PIPES, Box(PIPES, [(0, 2)] * 3, (9, 0))), ((1, 0), (1, 1)))
        self.assertIn(needed_part(PIPES, FULL, (1, 1)), ((1, 1), (-1, -1)))
        self.assertEqual(raised(needed_part, PIPES, FULL, (1, 0)), error(Refused, at=-1))

    def test_nothing_fills_exactly_if_a_needed_look_fails(self):
        seen = {True: 0, False: 0}
        for web, box in random_boxes(187, 300, 4, 5, 2, 0.2):
            failing = failing_sums(web, box)
            self.assertEqual(failing, tuple(x for x in needed_signs(web) if lack_by_hand(web, box, x) > 0))
            self.assertEqual(bool(failing), not half_rows(web, box))
            seen[bool(failing)] += 1
            for signs in sum_signs(web):
                told = raised(needed_part, web, box, signs)
                if lack_by_hand(web, box, signs) == 0:
                    self.assertEqual(told, error(Refused, at=-1))
                    continue
                self.assertTrue(integers(told, web.points) and needed_by_hand(web, told))
                self.assertGreater(lack_by_hand(web, box, told), 0)
                self.assertTrue(all(y or not x for x, y in zip(pulls(web, told), pulls(web, signs))))
        self.assertTrue(min(seen.values()) > 60, seen)

    def test_great_parts(self):
        rng = random.Random(188)
        for seed in range(30):
            web = random_web(rng, 40, 80, 0.1)
            box = random_box(rng, web, BIG)
            signs = tuple(rng.choice((-1, 0, 1)) for _ in range(40))
            told = raised(needed_part, web, box, signs)
            self.assertEqual(told == error(Refused, at=-1), look_lack(web, box, signs) == 0)
            if told != error(Refused, at=-1):
                self.assertIs(is_needed(web, told), True)
                self.assertGreater(look_lack(web, box, told), 0)
            paper = split_paper(web, signs)
            self.assertEqual(paper is None, is_needed(web, signs))
            self.assertIs(paper is None or split_holds(web, signs, paper), True)


class SplitTest(unittest.TestCase):
    def test_by_hand(self):
        self.assertIsNone(split_paper(TRIANGLE, (1, 1, -1)))
        self.assertIs(split_holds(TRIANGLE, (1, 1, -1), None), False)
        self.assertIs(split_holds(PIPES, (1, -1), (1, (1, 0), (0, -1))), True)
        self.assertIs(split_holds(PIPES, (1, -1), (1, (0, -1), (1, 0))), True)
        self.assertIs(split_holds(PIPES, (1, 1), (1, (1, 0), (0, 1))), False)
        for value in ((2, (1, 0), (0, -1)), (True, (1, 0), (0, -1)), (1, [1, 0], (0, -1)), (1, (1, 0)), [1, (1, 0), (0, -1)],
                      (1, (1, -1), (0, 0)), (0, (1, 0), (0, -1)), (1, (1, 0), (0, -1), 0), (3, (1, 0), (0, -1))):
            self.assertIs(split_holds(PIPES, (1, -1), value), False, value)

    def test_each_of_the_ways_to_part(self):
        """Single balances: with the one beside it that hangs on even ties, that hangs on both kinds, on odd ones."""
        ways = {(-1, -1): (1, (0, -1, 0), (1, 1, 0)), (-1, 1): (2, (1, -1, 0), (1, 1, 0)), (1, 1): (1, (0, 1, 0), (1, -1, 0))}
        for kinds in ways:
            web = Web(3, [(0, 1, 1, kind) for kind in kinds] + [(0, 1, 2, 1), (2, 1)])
            self.assertIs(split_holds(web, (1, 0, 0), split_paper(web, (1, 0, 0))), True)
            for told, value in ways.items():
                self.assertIs(split_holds(web, (1, 0, 0), value), kinds == told)

    def test_partings(self):
        seen = {0: 0, 1: 0, 2: 0}
        for web in random_webs(189, 250, 5, 7, 0.15):
            for signs in sum_signs(web):
                paper = split_paper(web, signs)
                self.assertEqual(paper is None, is_needed(web, signs))
                if paper is not None:
                    self.assertIs(split_holds(web, signs, paper), True)
                    self.assertTrue(split_by_hand(web, signs, paper))
                seen[0 if paper is None else paper[0]] += 1
        self.assertTrue(min(seen.values()) > 20, seen)

    def test_all_partings_of_small_webs(self):
        """There is one exactly if the signs are not needed."""
        for web in random_webs(190, 60, 3, 5, 0.2):
            for signs in sum_signs(web):
                found = False
                for one in all_signs(web):
                    for times in (0, 1, 2, 3):
                        other = tuple(times * x - y for x, y in zip(signs, one))
                        value = (times, one, other)
                        held = split_by_hand(web, signs, value)
                        self.assertIs(split_holds(web, list(signs), value), held, value)
                        found = found or held
                self.assertEqual(found, not is_needed(web, signs))

    def test_near_papers(self):
        rng = random.Random(191)
        for seed, web in enumerate(random_webs(192, 60, 4, 6, 0.15)):
            for signs in rng.sample(sum_signs(web), min(4, len(sum_signs(web)))):
                paper = split_paper(web, signs)
                for value in spoiled_sample(paper, seed, 80) if paper else [None, (1, signs, signs)]:
                    self.assertIs(split_holds(web, signs, value), split_by_hand(web, signs, value), value)
        for value in JUNK + [(1, value, value) for value in JUNK] + [(value, (1, 0), (0, -1)) for value in JUNK]:
            self.assertIs(split_holds(PIPES, (1, -1), value), split_by_hand(PIPES, (1, -1), value), value)


class EndsTest(unittest.TestCase):
    def test_by_hand(self):
        self.assertEqual(cut_bounds(TRIANGLE, HALVES, ()), ((0, 2),) * 3)
        self.assertEqual(cut_bounds(TRIANGLE, HALVES, NEEDED), ((1, 1),) * 3)
        self.assertEqual(cut_bounds(TRIANGLE, HALVES, [[1, 1, -1]]), ((1, 1), (0, 2), (0, 2)))
        self.assertEqual(cut_bounds(TRIANGLE, HALVES, ((1, 0, 0),)), ((0, 2),) * 3)
        self.assertIsNone(cut_bounds(PIPES, FULL, [(1, 1)]))
        self.assertEqual(cut_bounds(PIPES, FULL, [(1, 0), (0, -1)]), ((0, 4),) * 3)
        self.assertEqual(sum_ends(TRIANGLE, HALVES), ((1, 1),) * 3)
        self.assertEqual(raised(sum_ends, PIPES, FULL), error(Refused, at=-1))
        # By two sums that fail neither, but leave a tie nothing.
        web = Web(2, [(0, 1, 1, -1), (0, 1), (1, 1)])
        box = Box(web, [(0, 9), (0, 1), (0, 1)], (9, -1))
        self.assertEqual(cut_bounds(web, box, [(1, 0)]), ((16, 18), (0, 2), (0, 2)))
        self.assertEqual(cut_bounds(web, box, [(0, 1)]), ((2, 4), (0, 2), (0, 2)))
        self.assertIsNone(cut_bounds(web, box, [(1, 0), (0, 1)]))

    def test_each_sum_is_looked_at_once(self):
        """What one cuts the next one does not see."""
        web = Web(2, [(0, 1, 1, -1), (0, 1), (1, 1)])
        box = Box(web, [(0, 9), (0, 1), (0, 9)], (9, 0))
        self.assertEqual(cut_bounds(web, box, [(1, 0), (0, 1)]), ((16, 18), (0, 2), (0, 18)))
        self.assertEqual(cut_bounds(web, box, [(1, 0), (0, 1), (1, 1)]), ((16, 18), (0, 2), (16, 18)))

    def test_cuts(self):
        rng = random.Random(193)
        seen = {True: 0, False: 0}
        for web, box in random_boxes(194, 250, 4, 6, 4):
            rows = some_rows(rng, web)
            told = cut_bounds(web, box, rows)
            self.assertEqual(told, cut_by_hand(web, box, rows))
            seen[told is None] += 1
        self.assertTrue(min(seen.values()) > 30, seen)

    def test_ends_are_the_exact_ones(self):
        seen = {True: 0, False: 0}
        for web, box in random_boxes(195, 300, 4, 5, 3, 0.2):
            ends = all_ends(web, box)
            told = raised(sum_ends, web, box)
            self.assertEqual(told, error(Refused, at=-1) if ends is None else ends)
            self.assertEqual(cut_bounds(web, box, needed_signs(web)), ends)
            seen[ends is None] += 1
        self.assertTrue(min(seen.values()) > 60, seen)

    def test_even_rings_alone_tell_of_whole_fillings(self):
        for web, box in random_boxes(196, 150, 4, 5, 2, 0.2):
            if all(sign_of(web, ring) == 1 for ring in all_rings(web)) and not failing_sums(web, box):
                for tie, (least, most) in enumerate(sum_ends(web, box)):
                    for number in (least // 2, most // 2):
                        self.assertEqual(whole_through(web, box, tie, number)[tie], number)

    def test_great_rows(self):
        rng = random.Random(197)
        web = random_web(rng, 40, 80)
        box = filled_box(rng, web, BIG)
        rows = [tuple(rng.choice((-1, 0, 1)) for _ in range(39)) + (1,) for _ in range(400)]
        cuts = [cut_bounds(web, box, rows[at:at + 40]) for at in range(0, 400, 40)]
        self.assertEqual(cuts[0], cut_by_hand(web, box, rows[:40]))
        both = tuple((max(low for low, _ in pairs), min(high for _, high in pairs)) for pairs in zip(*cuts))
        self.assertEqual(cut_bounds(web, box, rows), both)

    def test_errors(self):
        rows = [(value, error(InvalidRows, at=-1)) for value in NO_SEQUENCES]
        signs = no_rows(InvalidSigns, 3, 1, NO_INTEGERS + [2, -2]) + [((0, 0, 0), None)]
        for bad, _ in signs:
            rows += [([bad, None], error(InvalidRows, at=0)), (([1, 0, 0], bad, (0, 0, 0)), error(InvalidRows, at=1))]
        check_errors(self, cut_bounds, [TRIANGLE, HALVES, NEEDED], [no_webs(), no_boxes(TRIANGLE), rows])
        check_errors(self, lacking_sums, [TRIANGLE, NEEDED], [no_webs(), rows])
        big = Web(11, [])
        bad = [([(1,) * 11, (0,) * 11], error(InvalidRows, at=1)), (None, error(InvalidRows, at=-1))]
        check_errors(self, lacking_sums, [big, ()], [no_webs(), bad])


class LoneTest(unittest.TestCase):
    def test_by_hand(self):
        box = lone_box(TRIANGLE, (1, 1, -1), 99)
        self.assertEqual((box.bounds, box.totals), (((0, 0), (-99, 99), (-99, 99)), (1, 0, 0)))
        self.assertEqual(lone_box(TRIANGLE, [-1, -1, 1], 99).totals, (-1, 0, 0))
        box = lone_box(PIPES, (0, -1), BIG)
        self.assertEqual((box.bounds, box.totals), (((0, 0),) * 3, (1, -1)))
        box = lone_box(PIPES, (-1, -1), 2)
        self.assertEqual((box.bounds, box.totals), (((-2, 2),) * 3, (-1, 0)))
        self.assertEqual(lone_box(Web(2, []), (0, -1), 2).totals, (0, -1))
        path = Web(3, [(0, 1, 1, 1), (1, 1, 2, -1)])
        self.assertEqual(lone_box(path, (1, -1, 0), 7).totals, (1, 0, 1))
        self.assertEqual(lone_box(path, (0, 1, 1), 7).totals, (1, 1, 0))

    def test_just_the_one_fails(self):
        """Of all sums with small factors just multiples, whole sums added; so none can be left out."""
        rng = random.Random(198)
        for web in random_webs(199, 120, 3, 5, 0.2):
            looks = needed_signs(web)
            level = wholes(web)
            for signs in rng.sample(sum_signs(web), min(6, len(sum_signs(web)))):
                if not is_needed(web, signs):
                    self.assertEqual(raised(lone_box, web, signs, 4), error(Refused, at=-1))
                    continue
                box = lone_box(web, signs, 4)
                self.assertEqual(fill_paper(web, box)[0], "signs")
                self.assertEqual(box.bounds, tuple((-4, 4) if not x else (0, 0) for x in pulls(web, signs)))
                others = [row for row in level if rank([row, signs]) == 2]
                for row in itertools.product(range(-2, 3), repeat=web.points):
                    multiple = rank(others + [row]) > rank(others) and rank(others + [row, signs]) == rank(others + [row])
                    self.assertEqual(lack_by_hand(web, box, row) > 0, multiple, (web.ties, signs, row))
                self.assertEqual(len(failing_sums(web, box)), 1)
            for at, signs in enumerate(looks):
                self.assertEqual(failing_sums(web, lone_box(web, signs, 2)), (signs,))
                self.assertEqual(lacking_sums(web, looks[:at] + looks[at + 1:]), (signs,))

    def test_great_webs(self):
        rng = random.Random(200)
        tree = random_forest(rng, 40, 0.1)
        web = random_web(rng, 40, 80, 0.05)
        for told in (tree, web):
            for point in range(40):
                signs = tuple(int(at == point) for at in range(40))
                if is_needed(told, signs):
                    box = lone_box(told, signs, BIG)
                    self.assertEqual(fill_paper(told, box)[0], "signs")
                    self.assertEqual(look_lack(told, box, signs), 1)

    def test_errors(self):
        wides = [(value, error(InvalidSize, word="wide")) for value in NO_INTEGERS + [1, 0, -2, BIG + 1]]
        check_errors(self, lone_box, [TRIANGLE, (1, 1, -1), 2], [no_webs(), no_signs(TRIANGLE, True), wides])
        for wide in (2, None, 1, BIG + 1):
            self.assertEqual(raised(lone_box, TRIANGLE, (1, 1, 1), wide), error(Refused, at=-1))


class LackingTest(unittest.TestCase):
    def test_by_hand(self):
        self.assertEqual(lacking_sums(TRIANGLE, ()), NEEDED)
        self.assertEqual(lacking_sums(TRIANGLE, [(1, 1, -1), (-1, 1, 1)]), ((1, -1, 1),))
        self.assertEqual(lacking_sums(TRIANGLE, [(1, 0, 0), (0, 1, 0), (0, 0, 1), (1, 1, 1)]), NEEDED)
        self.assertEqual(lacking_sums(PIPES, [(0, -1)]), ((1, 1),))
        self.assertEqual(lacking_sums(PIPES, [(0, -1), [-1, -1]]), ())
        self.assertEqual(lacking_sums(PIPES, [(1, 1)]), ((1, 0),))

    def test_whole_sums_may_be_mixed(self):
        web = side_by_side(side_by_side(PAIR, PAIR), Web(1, []))
        base = [(1, 0, 0, 0, 0), (0, 0, 0, 1, 1)]
        mixed = [[(1, 1, 1, 1, 0), (1, 1, -1, -1, 0), (0, 0, 1, 1, 1)], [(1, 1, 1, 1, 1), (1, 1, 1, 1, 0), (1, 1, 0, 0, 1)]]
        for rows in mixed:
            self.assertEqual(lacking_sums(web, base + rows), ())
            self.assertEqual([row for row in lacking_sums(web, base + rows[:2]) if row in wholes(web)],
                             [row for row in wholes(web) if lacks(web, rows[:2], row)])
        self.assertEqual(lacking_sums(web, base + [(1, 1, 1, 1, 0), (-1, -1, -1, -1, 0)]),
                         tuple(sorted(row for row in wholes(web))))

    def test_lacking(self):
        rng = random.Random(201)
        seen = {True: 0, False: 0}
        for web in random_webs(202, 150, 4, 5, 0.1):
            looks = list(needed_signs(web))
            rows = some_rows(rng, web) + rng.sample(looks, rng.randint(0, len(looks)))
            level = wholes(web)
            if level and rng.random() < 0.5:
                rows = [self.mixed(rng, row, level) for row in rows]
            told = lacking_sums(web, rows)
            self.assertEqual(told, tuple(signs for signs in looks if lacks(web, rows, signs)))
            for signs in looks:
                seen[signs in told] += 1
        self.assertTrue(min(seen.values()) > 100, seen)

    def mixed(self, rng, row, level):
        """The row, with a whole sum taken off or added where that leaves signs."""
        other = rng.choice(level)
        for times in (1, -1):
            told = tuple(times * x + y for x, y in zip(other, row))
            if any(told) and max(map(abs, told)) == 1:
                return told
        return row

    def test_enough_exactly_if_they_lack_none(self):
        """Rows that lack some have a box that nothing fills and of which they see nothing."""
        rng = random.Random(203)
        for web in random_webs(204, 100, 4, 5, 0.15):
            rows = some_rows(rng, web) + list(needed_signs(web))[::2]
            told = lacking_sums(web, rows)
            boxes = [random_box(rng, web, 2) for _ in range(8)]
            if told == ():
                for box in boxes:
                    seen = any(lack_by_hand(web, box, row) for row in rows)
                    self.assertEqual(seen, fill_paper(web, box)[0] == "signs")
            for signs in told:
                if any(pulls(web, signs)):
                    box = lone_box(web, signs, 2)
                    self.assertFalse(any(lack_by_hand(web, box, row) for row in rows))


if __name__ == "__main__":
    unittest.main()
