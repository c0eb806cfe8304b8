"""[56] to [59]: reach, widened and narrowed boxes, totals that gave way."""

import itertools
import math
import random
import unittest
from fractions import Fraction

from pushtells.amiss import (change_holds, change_paper, greatest_narrowing, least_change, least_widening,
                             narrowing_holds, narrowing_paper, reach, widening_holds, widening_paper)
from pushtells.boxes import Box
from pushtells.cover import worst_signs
from pushtells.errors import InvalidWeights, Refused
from pushtells.fillings import fill_paper
from pushtells.webs import Web
from tests.helpers import (JUNK, MIXED, NO_INTEGERS, PIPES, TRIANGLE, all_signs, are_signs, check_errors, error,
                           fills_by_hand, great_boxes, integers, lack_by_hand, no_boxes, no_rows, no_signs, no_webs,
                           pull_of, raised, random_boxes, spoiled_sample, told_as, totals_of)

RING = Web(2, [(0, 1, 1, 1), (0, 1, 1, -1)])
OFF = Box(RING, [(0, 1), (0, 1)], (4, 0))
HALF = Box(RING, [(0, 1), (0, 1)], (1, 1))
SPOKE = Web(1, [(0, 1), (0, 1)])


def reach_by_hand(web, weights, signs):
    return sum(weight * abs(pull_of(tie, signs)) for weight, tie in zip(weights, web.ties))


def moved_box(web, box, weights, p, q):
    """The box widened by p / q times the weights, all q times; None if some bounds cross."""
    bounds = [(q * least - p * w, q * most + p * w) for (least, most), w in zip(box.bounds, weights)]
    if any(least > most for least, most in bounds):
        return None
    return Box(web, bounds, [q * total for total in box.totals])


def fills_moved(web, box, weights, p, q, value):
    moved = moved_box(web, box, weights, p, q)
    return moved is not None and fills_by_hand(web, moved, value)


def is_fraction(p, q):
    return type(p) is int and type(q) is int and p >= 0 and q >= 1 and math.gcd(p, q) == 1


def widening_by_hand(web, box, weights, value):
    if told_as(value, "never", 2):
        return (are_signs(web, value[1]) and reach_by_hand(web, weights, value[1]) == 0
                and lack_by_hand(web, box, value[1]) > 0)
    if not told_as(value, "least", 5) or not is_fraction(value[1], value[2]) or not are_signs(web, value[3]):
        return False
    _, p, q, signs, filling = value
    far = reach_by_hand(web, weights, signs)
    if (p, q) == (0, 1):
        right = not any(signs)
    else:
        right = far > 0 and lack_by_hand(web, box, signs) * q == p * far
    return right and fills_moved(web, box, weights, p, q, filling)


def narrowing_by_hand(web, box, weights, value):
    if type(value) is not tuple or len(value) != 4 or not is_fraction(value[0], value[1]):
        return False
    p, q, why, filling = value
    if not fills_moved(web, box, weights, -p, q, filling):
        return False
    if told_as(why, "tie", 2) and type(why[1]) is int and 0 <= why[1] < len(web.ties):
        least, most = box.bounds[why[1]]
        return weights[why[1]] > 0 and Fraction(most - least, 2 * weights[why[1]]) == Fraction(p, q)
    if told_as(why, "signs", 2) and are_signs(web, why[1]):
        far = reach_by_hand(web, weights, why[1])
        return far > 0 and Fraction(-lack_by_hand(web, box, why[1]), far) == Fraction(p, q)
    return False


def change_by_hand(web, box, value):
    if type(value) is not tuple or len(value) != 4 or type(value[0]) is not int or not are_signs(web, value[1]):
        return False
    number, signs, totals, filling = value
    if not integers(totals, web.points) or lack_by_hand(web, box, signs) != number:
        return False
    if not integers(filling, len(web.ties)) or totals_of(web, filling) != totals:
        return False
    if not all(2 * least <= x <= 2 * most for x, (least, most) in zip(filling, box.bounds)):
        return False
    return sum(abs(told - 2 * total) for told, total in zip(totals, box.totals)) == 2 * number


def weighed_boxes(seed, many, points=4, ties=6, size=4):
    """Webs with boxes and weights: all 0, some 0, none."""
    rng = random.Random(seed)
    for web, box in random_boxes(seed, many, points, ties, size):
        if rng.random() < 0.3:
            totals = [total + rng.randint(-size, size) for total in box.totals]
            box = Box(web, box.bounds, totals)
        kinds = rng.choice([(0,), (0, 0, 1, 2, 9), (1, 2, 3, 9), (1, 2, 3, 9), (1,)])
        yield web, box, [rng.choice(kinds) for _ in web.ties]


class WideningTest(unittest.TestCase):
    def test_by_hand(self):
        self.assertEqual(least_widening(RING, OFF, (1, 1)), (1, 1))
        self.assertIsNone(least_widening(RING, OFF, (1, 0)))
        self.assertEqual(widening_paper(RING, OFF, (1, 0))[0], "never")
        self.assertEqual(widening_paper(RING, OFF, (1, 1))[:3], ("least", 1, 1))
        self.assertIs(widening_holds(RING, OFF, (1, 1), ("least", 1, 1, (1, 0), (4, 4))), True)
        self.assertIs(widening_holds(RING, OFF, (1, 0), ("never", (1, -1))), True)
        self.assertIs(widening_holds(RING, OFF, (0, 1), ("never", (1, 1))), True)
        # 4 is to come of two ties, 0 to 1 and 0 to 2, so 1 is wanted of both together.
        box = Box(SPOKE, [(0, 1), (0, 2)], [4])
        for weights, told in (((1, 1), (1, 2)), ((1, 0), (1, 1)), ((9, 0), (1, 9)), ((2, 4), (1, 6)), ((0, 0), None)):
            self.assertEqual(least_widening(SPOKE, box, weights), told)
        self.assertIs(widening_holds(SPOKE, box, (1, 1), ("least", 1, 2, (1,), (6, 10))), True)

    def test_nothing_is_wanted(self):
        self.assertEqual(least_widening(RING, HALF, (0, 0)), (0, 1))
        self.assertEqual(widening_paper(RING, HALF, (5, 5)), ("least", 0, 1, (0, 0), (2, 0)))
        self.assertIs(widening_holds(RING, HALF, (5, 5), ("least", 0, 1, (0, 0), (2, 0))), True)
        for p, q, signs in ((0, 2, (0, 0)), (0, 1, (1, 0)), (0, 1, (1, 1)), (0, 1, (0, 1)), (1, 1, (0, 0)), (0, 0, (0,
                                                                                                                    0)),
                            (0, -1, (0, 0)), (-1, 1, (0, 0)), (False, 1, (0, 0)), (0, True, (0, 0))):
            self.assertIs(widening_holds(RING, HALF, (0, 5), ("least", p, q, signs, (2 * q, 0))), False)

    def test_fractions_are_in_lowest_terms(self):
        box = Box(SPOKE, [(0, 1), (0, 2)], [4])
        self.assertIs(widening_holds(SPOKE, box, (1, 1), ("least", 2, 4, (1,), (12, 20))), False)
        self.assertIs(widening_holds(SPOKE, box, (1, 1), ("least", -1, -2, (1,), (-6, -10))), False)
        self.assertIs(narrowing_holds(SPOKE, Box(SPOKE, [(0, 1), (0, 4)], [2]), (1, 1), (1, 2, ("tie", 0), (2, 6))),
                      True)
        self.assertIs(narrowing_holds(SPOKE, Box(SPOKE, [(0, 1), (0, 4)], [2]), (1, 1), (2, 4, ("tie", 0), (4, 12))),
                      False)

    def test_no_fraction_is_below_0(self):
        """Narrowed is not widened by less than nothing, nor the other way about."""
        box = Box(SPOKE, [(0, 2), (0, 2)], [3])
        self.assertIs(narrowing_holds(SPOKE, box, (1, 1), (1, 2, ("signs", (1,)), (6, 6))), True)
        self.assertIs(widening_holds(SPOKE, box, (1, 1), ("least", -1, 2, (1,), (6, 6))), False)
        self.assertIs(widening_holds(RING, OFF, (1, 1), ("least", 1, 1, (1, 0), (4, 4))), True)
        self.assertIs(narrowing_holds(RING, OFF, (1, 1), (-1, 1, ("signs", (1, 0)), (4, 4))), False)

    def test_least_of_all(self):
        """By all signs; at it something fills, ahead of it nothing does."""
        seen = {"never": 0, "nought": 0, "some": 0}
        for web, box, weights in weighed_boxes(71, 400):
            rows = [(lack_by_hand(web, box, signs), reach_by_hand(web, weights, signs)) for signs in all_signs(web)]
            told = least_widening(web, box, weights)
            paper = widening_paper(web, box, weights)
            self.assertTrue(widening_by_hand(web, box, weights, paper))
            self.assertIs(widening_holds(web, box, weights, paper), True)
            if any(lack > 0 and far == 0 for lack, far in rows):
                self.assertIsNone(told)
                self.assertEqual(paper[0], "never")
                self.assertEqual(fill_paper(web, moved_box(web, box, weights, 10 ** 9, 1))[0], "signs")
                seen["never"] += 1
                continue
            self.assertEqual(Fraction(*told), max([0] + [Fraction(lack, far) for lack, far in rows if far > 0]))
            self.assertEqual(paper[:3], ("least", *told))
            self.assertTrue(is_fraction(*told) and (told[1] == 1 or told[1] <= 2 * sum(weights)))
            self.assertEqual(fill_paper(web, moved_box(web, box, weights, *told))[0], "filling")
            seen["some" if told[0] else "nought"] += 1
            if told[0]:
                less = moved_box(web, box, weights, 1000 * told[0] - 1, 1000 * told[1])
                self.assertEqual(fill_paper(web, less)[0], "signs")
            for signs in all_signs(web):
                self.assertIs(widening_holds(web, box, weights, ("never", signs)), False)
        self.assertTrue(min(seen.values()) > 30, seen)

    def test_all_signs_and_fractions(self):
        for web, box, weights in weighed_boxes(72, 60, 3, 4, 3):
            paper = widening_paper(web, box, weights)
            for signs in all_signs(web):
                for p, q in ((0, 1), (1, 1), (1, 2), (3, 2), paper[1:3] if paper[0] == "least" else (1, 3)):
                    word, row = fill_paper(web, moved_box(web, box, weights, p, q))
                    for value in (("never", signs), ("least", p, q, signs, row)):
                        self.assertIs(widening_holds(web, box, weights, value),
                                      widening_by_hand(web, box, weights, value), value)

    def test_near_papers(self):
        for at, (web, box, weights) in enumerate(weighed_boxes(73, 160)):
            paper = widening_paper(web, box, weights)
            others = spoiled_sample(paper, at, 60)
            for value in others + [("never", paper[-1]), ("least", *(paper + (1, 2))[1:5])]:
                self.assertIs(widening_holds(web, box, weights, value), widening_by_hand(web, box, weights, value),
                              value)
        for value in JUNK + [("never", value) for value in JUNK] + [("least", 1, 1, value, (4,
                                                                                            4)) for value in JUNK] + \
                [("least", value, 1, (1, 0), (4, 4)) for value in JUNK] + [("least", 1, 1, (1, 0), x) for x in JUNK]:
            self.assertIs(widening_holds(RING, OFF, (1, 1), value), widening_by_hand(RING, OFF, (1, 1), value), value)

    def test_great_numbers(self):
        rng = random.Random(74)
        for web, box in great_boxes(74, 3, 40, 80):
            weights = [rng.randint(0, 9) for _ in web.ties]
            off = Box(web, box.bounds, [total + rng.randint(-10 ** 17, 10 ** 17) for total in box.totals])
            for told in (weights, [9] * 80, [0] * 79 + [9]):
                for inner in (box, off):
                    paper = widening_paper(web, inner, told)
                    self.assertIs(widening_holds(web, inner, told, paper), True)
                    if paper[0] == "least":
                        self.assertEqual(paper[1:3], least_widening(web, inner, told))


class NarrowingTest(unittest.TestCase):
    def test_by_hand(self):
        # 1 comes of two ties, 0 to 1 both: a quarter from each end leaves 1/4 to 3/4; to a half they may come.
        box = Box(SPOKE, [(0, 1), (0, 1)], [1])
        self.assertEqual(greatest_narrowing(SPOKE, box, (1, 1)), (1, 2))
        self.assertEqual(greatest_narrowing(SPOKE, box, (1, 3)), (1, 6))
        self.assertEqual(greatest_narrowing(SPOKE, box, (0, 9)), (1, 18))
        self.assertIs(narrowing_holds(SPOKE, box, (1, 1), (1, 2, ("tie", 1), (2, 2))), True)
        self.assertIs(narrowing_holds(SPOKE, box, (0, 1), (1, 2, ("tie", 0), (2, 2))), False)
        full = Box(SPOKE, [(0, 1), (0, 1)], [2])
        self.assertEqual(greatest_narrowing(SPOKE, full, (1, 1)), (0, 1))
        self.assertEqual(narrowing_paper(SPOKE, full, (1, 1)), (0, 1, ("signs", (1,)), (2, 2)))
        # Signs of a shortage below 0: 3 of two ties, 0 to 2 each, lets 1/2 from each.
        self.assertEqual(greatest_narrowing(SPOKE, Box(SPOKE, [(0, 2), (0, 2)], [3]), (1, 1)), (1, 2))
        self.assertEqual(narrowing_paper(SPOKE, Box(SPOKE, [(0, 2), (0, 2)], [3]), (1, 1)),
                         (1, 2, ("signs", (1,)), (6, 6)))

    def test_refused(self):
        fit = [SPOKE, Box(SPOKE, [(0, 1), (0, 1)], [1])]
        off = [SPOKE, Box(SPOKE, [(0, 1), (0, 1)], [3])]
        for call in (greatest_narrowing, narrowing_paper):
            self.assertEqual(raised(call, *off, (0, 0)), error(Refused, at="filling"))
            self.assertEqual(raised(call, *off, (1, 0)), error(Refused, at="filling"))
            self.assertEqual(raised(call, *fit, (0, 0)), error(Refused, at="weights"))
            self.assertEqual(raised(call, *off, (0, 10)), error(InvalidWeights, at=1))
            bare = Web(1, [])
            self.assertEqual(raised(call, bare, Box(bare, [], [0]), ()), error(Refused, at="weights"))
            self.assertEqual(raised(call, bare, Box(bare, [], [1]), ()), error(Refused, at="filling"))
        for value in ((0, 1, ("tie", 0), (2, 2)), (0, 1, ("signs", (1,)), (2, 2)), None, ()):
            self.assertIs(narrowing_holds(*off, (1, 1), value), False)
            self.assertIs(narrowing_holds(*fit, (0, 0), value), False)

    def test_greatest_of_all(self):
        seen = {"tie": 0, "signs": 0, "filling": 0, "weights": 0}
        for web, box, weights in weighed_boxes(75, 400):
            rows = [(lack_by_hand(web, box, signs), reach_by_hand(web, weights, signs)) for signs in all_signs(web)]
            told = raised(greatest_narrowing, web, box, weights)
            paper = raised(narrowing_paper, web, box, weights)
            why = "filling" if max(rows)[0] > 0 else "weights" if not any(weights) else None
            if why is not None:
                self.assertEqual((told, paper), (error(Refused, at=why),) * 2)
                seen[why] += 1
                continue
            limits = [Fraction(b - a, 2 * w) for (a, b), w in zip(box.bounds, weights) if w]
            self.assertEqual(Fraction(*told), min(limits + [Fraction(-lack, far) for lack, far in rows if far]))
            self.assertTrue(is_fraction(*told))
            self.assertEqual(paper[:2], told)
            self.assertTrue(narrowing_by_hand(web, box, weights, paper))
            self.assertIs(narrowing_holds(web, box, weights, paper), True)
            self.assertEqual(fill_paper(web, moved_box(web, box, weights, -told[0], told[1]))[0], "filling")
            more = moved_box(web, box, weights, -1000 * told[0] - 1, 1000 * told[1])
            self.assertTrue(more is None or fill_paper(web, more)[0] == "signs")
            seen[paper[2][0]] += 1
        self.assertTrue(min(seen.values()) > 20, seen)

    def test_all_reasons(self):
        for web, box, weights in weighed_boxes(76, 100, 3, 4, 3):
            for p, q in ((0, 1), (1, 1), (1, 2), (1, 4), (2, 3), (0, 2)):
                moved = moved_box(web, box, weights, -p, q)
                row = fill_paper(web, moved)[1] if moved is not None else (0,) * len(web.ties)
                for why in [("signs", signs) for signs in all_signs(web)] + [("tie", t) for t in range(-1,
                                                                                                       len(web.ties) + 1)]:
                    value = (p, q, why, row)
                    self.assertIs(narrowing_holds(web, box, weights, value),
                                  narrowing_by_hand(web, box, weights, value), value)

    def test_near_papers(self):
        for at, (web, box, weights) in enumerate(weighed_boxes(77, 200)):
            paper = raised(narrowing_paper, web, box, weights)
            if paper[0] is Refused:
                continue
            for value in spoiled_sample(paper, at, 60):
                self.assertIs(narrowing_holds(web, box, weights, value),
                              narrowing_by_hand(web, box, weights, value), value)
        box = Box(SPOKE, [(0, 1), (0, 1)], [1])
        for value in JUNK + [(1, 2, value, (2, 2)) for value in JUNK] + [(1, 2, ("tie", value), (2,
                                                                                                 2)) for value in JUNK] + \
                [(1, 2, ("signs", value), (2, 2)) for value in JUNK] + [(1, 2, ("tie", 0), value) for value in JUNK] + \
                [(value, 2, ("tie", 0), (2, 2)) for value in JUNK] + [(1, value, ("tie", 0), (2, 2)) for value in JUNK]:
            self.assertIs(narrowing_holds(SPOKE, box, (1, 1), value), narrowing_by_hand(SPOKE, box, (1, 1), value),
                          value)

    def test_great_numbers(self):
        rng = random.Random(78)
        for web, box in great_boxes(78, 3, 40, 80):
            weights = [rng.randint(0, 9) for _ in web.ties]
            paper = narrowing_paper(web, box, weights)
            self.assertIs(narrowing_holds(web, box, weights, paper), True)
            self.assertEqual(paper[:2], greatest_narrowing(web, box, weights))


class ChangeTest(unittest.TestCase):
    def test_by_hand(self):
        self.assertEqual(least_change(RING, OFF), 2)
        self.assertEqual(least_change(RING, HALF), 0)
        self.assertEqual(least_change(PIPES, Box(PIPES, [(0, 2)] * 3, (4, -2))), 2)
        for signs, totals, filling in (((1, 0), (4, 0), (2, 2)), ((1, 1), (3, 1), (4, 2)), ((1, 0), (4, 2), (4, 2))):
            value = (2, signs, totals, filling)
            self.assertIs(change_holds(RING, OFF, value), change_by_hand(RING, OFF, value), value)
        self.assertIs(change_holds(RING, OFF, (2, (1, 0), (4, 0), (2, 2))), True)
        self.assertEqual(change_paper(Web(1, []), Box(Web(1, []), [], [-7])), (7, (-1,), (0,), ()))

    def test_noughts_are_let_where_nothing_is_changed(self):
        box = Box(SPOKE, [(0, 1), (0, 1)], [2])
        for signs, told in (((0,), True), ((1,), True), ((-1,), False)):
            self.assertIs(change_holds(SPOKE, box, (0, signs, (4,), (2, 2))), told)

    def test_halves_may_be_changed(self):
        box = Box(TRIANGLE, [(0, 1)] * 3, (1, 1, 2))
        self.assertIs(change_holds(TRIANGLE, box, (0, (0, 0, 0), (2, 2, 4), (0, 2, 2))), True)
        web = Web(2, [(0, 1, 1, 1)])
        box = Box(web, [(0, 5)], (1, 2))
        for x in range(2, 5):
            self.assertIs(change_holds(web, box, (1, (-1, 1), (x, x), (x,))), True)

    def test_least_of_all(self):
        """By all signs, and by all numbers on the ties, halves too."""
        seen = {True: 0, False: 0}
        for web, box in random_boxes(79, 150, 4, 5, 3) + random_boxes(80, 60, 3, 5, 2):
            number = least_change(web, box)
            self.assertEqual(number, max(lack_by_hand(web, box, signs) for signs in all_signs(web)))
            self.assertEqual(number, worst_signs(web, box)[0])
            rows = itertools.product(*[range(2 * a, 2 * b + 1) for a, b in box.bounds])
            best = min(sum(abs(x - 2 * y) for x, y in zip(totals_of(web, row), box.totals)) for row in rows)
            self.assertEqual(2 * number, best)
            paper = change_paper(web, box)
            self.assertEqual(paper[0], number)
            self.assertTrue(change_by_hand(web, box, paper))
            self.assertIs(change_holds(web, box, paper), True)
            self.assertEqual(number == 0, fill_paper(web, box)[0] == "filling")
            seen[number == 0] += 1
        self.assertTrue(min(seen.values()) > 20, seen)

    def test_all_signs_and_fillings(self):
        rng = random.Random(81)
        for web, box in random_boxes(81, 60, 3, 4, 2):
            rows = list(itertools.product(*[range(2 * a, 2 * b + 1) for a, b in box.bounds]))
            best = min(sum(abs(x - 2 * y) for x, y in zip(totals_of(web, row), box.totals)) for row in rows)
            near = [row for row in rows if sum(abs(x - 2 * y) for x, y in zip(totals_of(web, row), box.totals)) == best]
            for row in rng.sample(rows, min(len(rows), 5)) + rng.sample(near, min(len(near), 5)):
                for signs in all_signs(web):
                    for number in {best // 2, lack_by_hand(web, box, signs)}:
                        value = (number, signs, totals_of(web, row), row)
                        self.assertIs(change_holds(web, box, value), change_by_hand(web, box, value), value)

    def test_near_papers(self):
        for at, (web, box) in enumerate(random_boxes(82, 120, 4, 5, 3)):
            for value in spoiled_sample(change_paper(web, box), at, 60):
                self.assertIs(change_holds(web, box, value), change_by_hand(web, box, value), value)
        for place in range(4):
            for junk in JUNK:
                value = (2, (1, 0), (4, 0), (2, 2))
                value = value[:place] + (junk,) + value[place + 1:]
                self.assertIs(change_holds(RING, OFF, value), change_by_hand(RING, OFF, value), value)
        for value in JUNK:
            self.assertIs(change_holds(RING, OFF, value), False)

    def test_great_numbers(self):
        rng = random.Random(83)
        for web, box in great_boxes(83, 3, 40, 80):
            off = Box(web, box.bounds, [total + rng.randint(-10 ** 18, 10 ** 18) for total in box.totals])
            for inner in (box, off):
                paper = change_paper(web, inner)
                self.assertEqual(paper[0], worst_signs(web, inner)[0])
                self.assertIs(change_holds(web, inner, paper), True)


class ErrorTest(unittest.TestCase):
    def test_reach(self):
        self.assertEqual(reach(RING, (2, 3), (1, 1)), 4)
        self.assertEqual(reach(RING, (2, 3), (1, -1)), 6)
        self.assertEqual(reach(RING, (2, 3), (1, 0)), 5)
        self.assertEqual(reach(RING, (9, 9), (0, 0)), 0)
        self.assertEqual(reach(Web(1, []), (), (1,)), 0)
        for web, _, weights in weighed_boxes(84, 60):
            for signs in all_signs(web):
                self.assertEqual(reach(web, weights, signs), reach_by_hand(web, weights, signs))

    def test_errors(self):
        box = Box(TRIANGLE, [(0, 1)] * 3, (1, 1, 1))
        wrong = [no_webs(), no_boxes(TRIANGLE), no_rows(InvalidWeights, 3, 0, NO_INTEGERS + [-1, 10, 10 ** 30, -9])]
        for call in (least_widening, widening_paper, greatest_narrowing, narrowing_paper):
            check_errors(self, call, [TRIANGLE, box, (9, 0, 9)], wrong)
        for call in (widening_holds, narrowing_holds):
            check_errors(self, call, [TRIANGLE, box, (9, 0, 9), None], wrong + [[]])
        check_errors(self, reach, [TRIANGLE, (9, 0, 9), (1, 1, 1)], [wrong[0], wrong[2], no_signs(TRIANGLE)])
        check_errors(self, least_change, [TRIANGLE, box], wrong[:2])
        check_errors(self, change_paper, [TRIANGLE, box], wrong[:2])
        check_errors(self, change_holds, [TRIANGLE, box, None], wrong[:2] + [[]])
        self.assertEqual(reach(MIXED, [0] * 8, (1,) * 7), 0)


if __name__ == "__main__":
    unittest.main()
