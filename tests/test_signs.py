"""[23]: what signs pull and show."""

import itertools
import random
import unittest

from pushtells.boxes import Box
from pushtells.errors import InvalidBox, InvalidSigns, InvalidTie, InvalidWeb
from pushtells.signs import hanging_parts, pull, shortage, sign_pulls, signs_show
from pushtells.webs import Web
from tests.helpers import (JUNK, MIXED, NO_INTEGERS, NO_SEQUENCES, NO_WEBS, PIPES, TRIANGLE, all_signs, error,
                           pull_of, raised, random_boxes)

FULL = Box(PIPES, [(0, 2)] * 3, (4, -2))


def parts_by_hand(web, signs):
    lots = [{point} for point in range(web.points) if signs[point] != 0]
    for tie in web.ties:
        if len(tie) == 4 and signs[tie[0]] and signs[tie[2]] and pull_of(tie, signs) == 0:
            joined = [lot for lot in lots if lot & {tie[0], tie[2]}]
            lots = [lot for lot in lots if lot not in joined] + [set().union(*joined)]
    return tuple(sorted(tuple(sorted(lot)) for lot in lots))


def fills(web, box):
    """Whether some numbers, whole or halves, fill a small box: all of them tried, doubled."""
    for row in itertools.product(*[range(2 * least, 2 * most + 1) for least, most in box.bounds]):
        sums = [0] * web.points
        for number, tie in zip(row, web.ties):
            for at in range(0, len(tie), 2):
                sums[tie[at]] += tie[at + 1] * number
        if sums == [2 * total for total in box.totals]:
            return True
    return False


class SignsTest(unittest.TestCase):
    def test_by_hand(self):
        web = Web(3, [(0, 1, 1, 1), (0, 1, 1, -1), (2, -1), (1, 1, 2, 1)])
        self.assertEqual([pull(web, (1, 1, -1), tie) for tie in range(4)], [2, 0, 1, 0])
        self.assertEqual([pull(web, [-1, 0, 1], tie) for tie in range(4)], [-1, -1, -1, 1])
        self.assertEqual(sign_pulls(web, (1, 1, -1)), ((0, 2), (2, 1)))
        self.assertEqual(sign_pulls(web, (0, 0, 0)), ())
        self.assertEqual(sign_pulls(Web(1, []), [1]), ())
        box = Box(web, [(-1, 2), (5, 9), (-3, 4), (0, 1)], (3, 4, -10))
        self.assertEqual(shortage(web, box, (1, 1, -1)), 3 + 4 + 10 - 4 - 4)
        self.assertEqual(shortage(web, box, (-1, -1, 1)), -17 - (2 + 3))
        self.assertEqual(shortage(web, box, (0, 0, 0)), 0)

    def test_pipes(self):
        self.assertEqual(shortage(PIPES, FULL, (1, 1)), 2)
        self.assertIs(signs_show(PIPES, FULL, (1, 1)), True)
        for signs in all_signs(PIPES):
            self.assertIs(signs_show(PIPES, FULL, signs), signs == (1, 1))
            self.assertIs(signs_show(PIPES, Box(PIPES, [(0, 2)] * 3, (4, -4)), signs), False)

    def test_show_takes_tuples_of_signs_alone(self):
        for value in JUNK + [[1, 1], (1, True), (1, 1, 0), (1,), (1, 2), ((1, 1),), ["1", "1"], (1, None)]:
            self.assertIs(signs_show(PIPES, FULL, value), False, value)

    def test_pulls_of_all_signs(self):
        for web, box in random_boxes(11, 60, 4, 6, 4):
            for signs in all_signs(web):
                pulls = [pull_of(tie, signs) for tie in web.ties]
                self.assertEqual([pull(web, signs, tie) for tie in range(len(web.ties))], pulls)
                self.assertEqual(sign_pulls(web, signs), tuple((at, g) for at, g in enumerate(pulls) if g))
                brought = sum(max(g * x for x in pair) for g, pair in zip(pulls, box.bounds))
                told = sum(s * t for s, t in zip(signs, box.totals)) - brought
                self.assertEqual(shortage(web, box, signs), told)
                self.assertIs(signs_show(web, box, signs), told > 0)
                self.assertIs(signs_show(web, box, list(signs)), False)

    def test_parts(self):
        self.assertEqual(hanging_parts(MIXED, (1, 1, 1, -1, 1, -1, 0)), ((0, 1), (2, 3, 4), (5,)))
        self.assertEqual(hanging_parts(MIXED, (1, -1, 1, 1, 0, 0, 1)), ((0,), (1,), (2,), (3,), (6,)))
        self.assertEqual(hanging_parts(MIXED, (0,) * 7), ())
        for web, box in random_boxes(12, 60, 5, 7, 4):
            for signs in all_signs(web):
                parts = hanging_parts(web, signs)
                self.assertEqual(parts, parts_by_hand(web, signs))
                alone = [tuple(s if at in part else 0 for at, s in enumerate(signs)) for part in parts]
                told = [shortage(web, box, each) for each in alone]
                self.assertEqual(shortage(web, box, signs), sum(told))
                if signs_show(web, box, signs):
                    self.assertTrue(any(signs_show(web, box, each) for each in alone))

    def test_signs_show_where_nothing_fills(self):
        seen = {True: 0, False: 0}
        for web, box in random_boxes(13, 150, 3, 4, 2):
            shown = any(signs_show(web, box, signs) for signs in all_signs(web))
            seen[shown] += 1
            self.assertEqual(shown, not fills(web, box))
        self.assertTrue(min(seen.values()) > 20, seen)

    def test_great_numbers(self):
        big = 10 ** 18
        ring = Web(150, [(at % 150, 1, (at + 1) % 150, 1) for at in range(360)])
        box = Box(ring, [(-big, big)] * 360, [10 ** 21] * 150)
        self.assertEqual(shortage(ring, box, (1,) * 150), 150 * 10 ** 21 - 720 * big)
        self.assertEqual(shortage(ring, box, (1, -1) * 75), 0)

    def test_errors(self):
        calls = ((pull, (9,)), (sign_pulls, ()), (hanging_parts, ()))
        for web in NO_WEBS:
            for call, rest in calls:
                self.assertEqual(raised(call, web, None, *rest), error(InvalidWeb, at=-1))
            self.assertEqual(raised(shortage, web, None, None), error(InvalidWeb, at=-1))
            self.assertEqual(raised(signs_show, web, None, None), error(InvalidWeb, at=-1))
        for box in (None, 0, PIPES, FULL):
            self.assertEqual(raised(shortage, TRIANGLE, box, None), error(InvalidBox, at=-1))
            self.assertEqual(raised(signs_show, TRIANGLE, box, None), error(InvalidBox, at=-1))
        calls = [lambda signs: pull(PIPES, signs, None), lambda signs: sign_pulls(PIPES, signs),
                 lambda signs: hanging_parts(PIPES, signs), lambda signs: shortage(PIPES, FULL, signs)]
        for call in calls:
            for signs in NO_SEQUENCES + [(), (1,), [1, 1, 1], (None,) * 3]:
                self.assertEqual(raised(call, signs), error(InvalidSigns, at=-1))
            for wrong in NO_INTEGERS + [2, -2, 10 ** 30]:
                self.assertEqual(raised(call, (wrong, None)), error(InvalidSigns, at=0))
                self.assertEqual(raised(call, [0, wrong]), error(InvalidSigns, at=1))
        for tie in NO_INTEGERS + [-1, 3]:
            self.assertEqual(raised(pull, PIPES, (0, 0), tie), error(InvalidTie, at=-1))

    def test_nothing_changes(self):
        signs = [random.Random(3).choice((-1, 0, 1)) for _ in range(7)]
        before = list(signs)
        hanging_parts(MIXED, signs)
        sign_pulls(MIXED, signs)
        self.assertEqual(signs, before)


if __name__ == "__main__":
    unittest.main()
