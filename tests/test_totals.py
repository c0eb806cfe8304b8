"""[39] to [43]: what totals alone tell, totals that can be, swings."""

import itertools
import math
import random
import unittest

from pushtells.errors import InvalidRead, InvalidSize, InvalidTotals, Refused
from pushtells.totals import (closed_evens, fewest_swing, free_number, like_ties, tie_holds, tie_paper, told_by,
                              told_values, totals_hold, totals_paper, web_rank, wrong_readings)
from pushtells.webs import Web, components, side_by_side, struck
from tests.helpers import (JUNK, MIXED, NO_INTEGERS, NO_SEQUENCES, PIPES, TRIANGLE, all_signs, are_signs, check_errors,
                           error, integers, lots_by_hand, no_lots, no_rows, no_ties, no_webs,
                           pull_of, raised, random_forest, random_web, random_webs, spoiled_sample, told_as, totals_of)
from tests.ranks import is_swing, pulls, rank_of, small_swings, telling_signs, tells, tells_by

BIG = 10 ** 18
FOURTH = Web(3, list(TRIANGLE.ties) + [TRIANGLE.ties[0]])


def evens_by_hand(web):
    """Of all signs that pull at no tie, of single components, those with 1 at the least point."""
    found = []
    for lot in lots_by_hand(web):
        for signs in all_signs(web):
            inside = tuple(point for point, sign in enumerate(signs) if sign)
            if inside == lot and signs[lot[0]] == 1 and not any(pulls(web, signs)):
                found.append(signs)
    return tuple(found)


def tie_by_hand(web, lot, tie, value):
    if told_as(value, "told", 2):
        return tells_by(web, value[1], tie, [x for x in range(len(web.ties)) if x not in lot])
    return told_as(value, "free", 2) and is_swing(web, value[1], lot) and value[1][tie] != 0


def totals_by_hand(web, totals, value):
    if told_as(value, "whole", 2):
        return integers(value[1], len(web.ties)) and totals_of(web, value[1]) == tuple(totals)
    if told_as(value, "halves", 3):
        if not integers(value[1], len(web.ties)) or totals_of(web, value[1]) != tuple(2 * x for x in totals):
            return False
        lot = value[2]
        if type(lot) is not tuple or any(type(x) is not int or not 0 <= x < web.points for x in lot):
            return False
        if list(lot) != sorted(set(lot)) or sum(totals[x] for x in lot) % 2 == 0:
            return False
        return all(len(tie) == 4 and tie[2] in lot if tie[0] in lot else len(tie) == 2 or tie[2] not in lot
                   for tie in web.ties)
    if not told_as(value, "signs", 2) or not are_signs(web, value[1]) or any(pulls(web, value[1])):
        return False
    return sum(x * y for x, y in zip(value[1], totals)) != 0


def some_totals(rng, web):
    """Totals that whole numbers have, or halves, or any."""
    kind = rng.randrange(3)
    if kind == 0:
        return [rng.randint(-3, 3) for _ in range(web.points)]
    row = [rng.randint(-3, 3) for _ in web.ties]
    if kind == 1:
        return list(totals_of(web, row))
    return [total // 2 + more for total, more in zip(totals_of(web, [1] * len(web.ties)), totals_of(web, row))]


class RankTest(unittest.TestCase):
    def test_by_hand(self):
        self.assertEqual((closed_evens(PIPES), web_rank(PIPES), free_number(PIPES)), (((1, 1),), 1, 2))
        self.assertEqual((closed_evens(TRIANGLE), web_rank(TRIANGLE), free_number(TRIANGLE)), ((), 3, 0))
        self.assertEqual((web_rank(FOURTH), free_number(FOURTH)), (3, 1))
        self.assertEqual(closed_evens(MIXED), ((0, 0, 0, 0, 0, 1, 0), (0, 0, 0, 0, 0, 0, 1)))
        web = Web(4, [(3, 1, 1, 1), (2, 1)])
        self.assertEqual(closed_evens(web), ((1, 0, 0, 0), (0, 1, 0, -1)))
        self.assertEqual((web_rank(web), free_number(web)), (2, 0))
        self.assertEqual((closed_evens(Web(1, [])), web_rank(Web(1, [])), free_number(Web(1, []))), (((1,),), 0, 0))
        self.assertEqual(closed_evens(Web(1, [(0, -1)])), ())

    def test_ranks(self):
        for web in random_webs(121, 200, 5, 7, 0.15):
            evens = closed_evens(web)
            self.assertEqual(evens, evens_by_hand(web))
            self.assertEqual(web_rank(web), rank_of(web, range(len(web.ties))))
            self.assertEqual(web_rank(web), web.points - len(evens))
            self.assertEqual(free_number(web), len(web.ties) - web_rank(web))
            # What pulls at no tie is a sum of multiples of them.
            for signs in all_signs(web):
                if not any(pulls(web, signs)):
                    left = list(signs)
                    for even in evens:
                        least = even.index(1)
                        left = [x - signs[least] * y for x, y in zip(left, even)]
                    self.assertEqual(left, [0] * web.points)

    def test_great_webs(self):
        rng = random.Random(122)
        tree = random_forest(rng, 150, 0)
        self.assertEqual(len(closed_evens(tree)), len(components(tree)))
        self.assertEqual(free_number(tree), 0)
        web = random_web(rng, 150, 360)
        self.assertEqual(free_number(web), 360 - web_rank(web))
        for call in (closed_evens, web_rank, free_number):
            check_errors(self, call, [web], [no_webs()])


class ToldTest(unittest.TestCase):
    def test_by_hand(self):
        """Three balances with three like ties in a ring; and a fourth tie alike to one."""
        self.assertEqual(told_by(TRIANGLE, ()), (0, 1, 2))
        self.assertEqual(told_by(FOURTH, []), (1, 2))
        self.assertEqual(told_by(FOURTH, [3]), (0, 1, 2, 3))
        self.assertEqual(told_by(FOURTH, (1,)), (1, 2))
        self.assertIs(tie_holds(TRIANGLE, (), 0, ("told", (1, 1, -1))), True)
        self.assertIs(tie_holds(TRIANGLE, (), 0, ("told", (-1, -1, 1))), True)
        self.assertIs(tie_holds(TRIANGLE, (), 0, ("told", (1, 1, 1))), False)
        self.assertIn(tie_paper(TRIANGLE, [], 0), (("told", (1, 1, -1)), ("told", (-1, -1, 1))))
        self.assertEqual(tie_paper(FOURTH, (), 3)[0], "free")
        for swing in ((5, 0, 0, -5), (-BIG, 0, 0, BIG)):
            self.assertIs(tie_holds(FOURTH, (), 0, ("free", swing)), True)
            self.assertIs(tie_holds(FOURTH, (), 1, ("free", swing)), False)
            self.assertIs(tie_holds(FOURTH, [3], 0, ("free", swing)), False)
        self.assertIs(tie_holds(FOURTH, (), 0, ("free", (0, 0, 0, 0))), False)
        self.assertIs(tie_holds(FOURTH, (), 0, ("free", (1, 0, 0, 1))), False)

    def test_told_ties(self):
        rng = random.Random(123)
        seen = {"told": 0, "free": 0}
        for web in random_webs(124, 200, 5, 7, 0.2):
            many = len(web.ties)
            lot = [tie for tie in range(many) if rng.random() < 0.3]
            rng.shuffle(lot)
            told = tuple(tie for tie in range(many) if tells(web, lot, tie))
            self.assertEqual(told_by(web, lot), told)
            for tie in range(many):
                if tie in lot:
                    self.assertEqual(raised(tie_paper, web, lot, tie), error(Refused, at=-1))
                    self.assertEqual(raised(tie_holds, web, tuple(lot), tie, None), error(Refused, at=-1))
                    continue
                paper = tie_paper(web, lot, tie)
                seen[paper[0]] += 1
                self.assertEqual(paper[0], "told" if tie in told else "free")
                self.assertIs(tie_holds(web, lot, tie, paper), True)
                self.assertTrue(tie_by_hand(web, lot, tie, paper))
                without = struck(web, lot)
                less = struck(web, lot + [tie])
                self.assertEqual(len(closed_evens(less)) - len(closed_evens(without)), int(tie in told))
        self.assertTrue(min(seen.values()) > 100, seen)

    def test_all_signs_and_small_swings(self):
        rng = random.Random(125)
        for web in random_webs(126, 50, 4, 5, 0.2):
            lot = [tie for tie in range(len(web.ties)) if rng.random() < 0.3]
            for tie in set(range(len(web.ties))) - set(lot):
                unread = [x for x in range(len(web.ties)) if x not in lot]
                by_signs = telling_signs(web, tie, unread)
                for signs in all_signs(web):
                    self.assertIs(tie_holds(web, lot, tie, ("told", signs)), signs in by_signs)
                swings = [swing for swing in small_swings(web) if not any(swing[x] for x in lot) and swing[tie]]
                self.assertEqual(bool(by_signs), not swings)
                for swing in itertools.product(range(-2, 3), repeat=len(web.ties)):
                    if rng.random() < 0.05 or swing in swings[:5]:
                        self.assertIs(tie_holds(web, lot, tie, ("free", swing)), swing in swings)

    def test_exchange(self):
        """If a lot and one tie more tell another tie, and the lot alone does not, they change places."""
        rng = random.Random(127)
        seen = 0
        for web in random_webs(128, 150, 5, 7, 0.2):
            lot = [tie for tie in range(len(web.ties)) if rng.random() < 0.3]
            for one, other in itertools.permutations([x for x in range(len(web.ties)) if x not in lot], 2):
                if other in told_by(web, lot + [one]) and other not in told_by(web, lot):
                    seen += 1
                    self.assertIn(one, told_by(web, lot + [other]))
        self.assertGreater(seen, 100)

    def test_near_papers(self):
        rng = random.Random(129)
        for seed, web in enumerate(random_webs(130, 60, 4, 6, 0.2)):
            lot = [tie for tie in range(len(web.ties)) if rng.random() < 0.3]
            for tie in set(range(len(web.ties))) - set(lot):
                paper = tie_paper(web, lot, tie)
                others = [("told", paper[1]), ("free", paper[1])]
                for value in spoiled_sample(paper, seed, 40) + others:
                    self.assertIs(tie_holds(web, lot, tie, value), tie_by_hand(web, lot, tie, value), value)
        for value in JUNK:
            for told in (value, ("told", value), ("free", value)):
                self.assertIs(tie_holds(FOURTH, (1,), 0, told), tie_by_hand(FOURTH, (1,), 0, told), told)

    def test_great_webs(self):
        rng = random.Random(131)
        web = random_web(rng, 150, 360, 0.05)
        lot = rng.sample(range(360), 120)
        told = told_by(web, lot)
        for tie in [x for x in range(360) if x not in lot][::12]:
            paper = tie_paper(web, lot, tie)
            self.assertEqual(paper[0] == "told", tie in told)
            self.assertIs(tie_holds(web, lot, tie, paper), True)

    def test_errors(self):
        check_errors(self, told_by, [FOURTH, ()], [no_webs(), no_lots(4)])
        check_errors(self, tie_paper, [FOURTH, (1,), 0], [no_webs(), no_lots(4), no_ties(FOURTH)])
        check_errors(self, tie_holds, [FOURTH, (1,), 0, None], [no_webs(), no_lots(4), no_ties(FOURTH), []])


class ValuesTest(unittest.TestCase):
    def test_by_hand(self):
        self.assertEqual(told_values(TRIANGLE, (1, 1, 1), ()), ((0, 1), (1, 1), (2, 1)))
        self.assertEqual(told_values(TRIANGLE, [1, 1, 2], []), ((0, 0), (1, 2), (2, 2)))
        self.assertEqual(told_values(FOURTH, [1, 1, 1], ()), ((1, 1), (2, 1)))
        self.assertEqual(told_values(FOURTH, [1, 1, 1], [(3, -7)]), ((0, 15), (1, 1), (2, 1), (3, -14)))
        self.assertEqual(told_values(FOURTH, [1, 1, 1], [[0, BIG]]), ((0, 2 * BIG), (1, 1), (2, 1), (3, 1 - 2 * BIG)))
        self.assertEqual(told_values(PIPES, (4, -4), ()), ())
        self.assertEqual(told_values(PIPES, (4, -4), ((0, 1), (2, 9))), ((0, 2), (1, -12), (2, 18)))
        for totals in ((4, -2), (0, 1)):
            self.assertEqual(raised(told_values, PIPES, totals, ()), error(Refused, at="totals"))
        self.assertEqual(raised(told_values, PIPES, (4, -4), ((0, 1), (1, 1), (2, 1))), error(Refused, at="totals"))
        self.assertEqual(told_values(PIPES, (4, -4), ((0, 1), (1, 1), (2, 2))), ((0, 2), (1, 2), (2, 4)))
        self.assertEqual(raised(told_values, TRIANGLE, (1, 1, 1), ((0, 0),)), error(Refused, at="totals"))
        self.assertEqual(told_values(Web(1, []), (0,), ()), ())
        self.assertEqual(raised(told_values, Web(1, []), (1,), ()), error(Refused, at="totals"))

    def test_values(self):
        """As of any row that has the totals; refused where what is read leaves none."""
        rng = random.Random(132)
        seen = {True: 0, False: 0}
        for web in random_webs(133, 300, 5, 7, 0.2):
            row = [rng.randint(-9, 9) for _ in web.ties]
            if rng.random() < 0.3 and all(total % 2 == 0 for total in totals_of(web, row)):
                doubled, totals = row, [total // 2 for total in totals_of(web, row)]
            else:
                doubled, totals = [2 * x for x in row], totals_of(web, row)
            read = [(tie, doubled[tie] // 2) for tie in range(len(web.ties)) if rng.random() < 0.4 and doubled[tie] % 2 == 0]
            told = told_by(web, [tie for tie, _ in read])
            self.assertEqual(told_values(web, totals, read), tuple((tie, doubled[tie]) for tie in told))
            for at, (tie, value) in enumerate(read):
                others = [other for other, _ in read if other != tie]
                wrong = read[:at] + [(tie, value + 1)] + read[at + 1:]
                refused = raised(told_values, web, totals, wrong) == error(Refused, at="totals")
                self.assertEqual(refused, tie in told_by(web, others))
                seen[refused] += 1
        self.assertTrue(min(seen.values()) > 40, seen)

    def test_a_half_only_by_a_pull_of_two(self):
        for web in random_webs(134, 200, 4, 5, 0.1):
            for totals in ([1] * web.points, [1] + [0] * (web.points - 1)):
                told = raised(told_values, web, totals, ())
                for tie, value in told if told != error(Refused, at="totals") else ():
                    if value % 2:
                        by_signs = telling_signs(web, tie, range(len(web.ties)))
                        self.assertEqual({abs(pull_of(web.ties[tie], signs)) for signs in by_signs}, {2})

    def test_errors(self):
        totals = no_rows(InvalidTotals, 3, 5, NO_INTEGERS)
        read = [(value, error(InvalidRead, at=-1)) for value in NO_SEQUENCES]
        for bad in NO_INTEGERS + [(0,), (0, 1, 2), (4, 0), (-1, 0), (True, 0), (0, True), (0, None), (None, 0), [0, "1"]]:
            read += [([bad, None], error(InvalidRead, at=0)), (((0, 5), bad), error(InvalidRead, at=1))]
        read += [(((1, 5), (1, 5), None), error(InvalidRead, at=1)), ([(0, 5), (2, 5), (1, 5)], error(InvalidRead, at=2))]
        check_errors(self, told_values, [FOURTH, (1, 1, 1), ()], [no_webs(), totals, read])
        check_errors(self, told_values, [PIPES, (0, 1), ()], [no_webs(), no_rows(InvalidTotals, 2, 5, NO_INTEGERS), []])


class TotalsTest(unittest.TestCase):
    def test_by_hand(self):
        self.assertEqual(totals_paper(TRIANGLE, (1, 1, 1)), ("halves", (1, 1, 1), (0, 1, 2)))
        self.assertEqual(totals_paper(TRIANGLE, (1, 1, 2)), ("whole", (0, 1, 1)))
        self.assertEqual(totals_paper(PIPES, (4, -2))[0], "signs")
        self.assertEqual(totals_paper(PIPES, [4, -4])[0], "whole")
        self.assertIn(totals_paper(Web(2, [(0, 1)]), (7, 1)), (("signs", (0, 1)), ("signs", (0, -1))))
        self.assertEqual(totals_paper(Web(1, []), (0,)), ("whole", ()))
        for value in (("signs", (1, 1)), ("signs", (-1, -1))):
            self.assertIs(totals_hold(PIPES, (4, -2), value), True)
            self.assertIs(totals_hold(PIPES, (4, -4), value), False)
        self.assertIs(totals_hold(PIPES, (4, -2), ("signs", (1, -1))), False)
        self.assertIs(totals_hold(PIPES, (4, -4), ("whole", (BIG, 4 - BIG, 0))), True)
        self.assertIs(totals_hold(TRIANGLE, (1, 1, 1), ("halves", (1, 1, 1), (0, 1))), False)
        self.assertIs(totals_hold(TRIANGLE, (1, 1, 2), ("halves", (0, 2, 2), (0, 1, 2))), False)

    def test_just_one_kind(self):
        rng = random.Random(135)
        seen = {"whole": 0, "halves": 0, "signs": 0}
        for web in random_webs(136, 400, 5, 6, 0.15):
            totals = some_totals(rng, web)
            paper = totals_paper(web, totals)
            seen[paper[0]] += 1
            self.assertIs(totals_hold(web, totals, paper), True)
            self.assertTrue(totals_by_hand(web, totals, paper))
            shown = [signs for signs in all_signs(web) if totals_by_hand(web, totals, ("signs", signs))]
            lots = [lot for many in range(web.points + 1) for lot in itertools.combinations(range(web.points), many)]
            row = paper[1] if paper[0] == "halves" else tuple(2 * x for x in paper[1]) if paper[0] == "whole" else None
            odd = [] if row is None else [lot for lot in lots if totals_by_hand(web, totals, ("halves", row, lot))]
            self.assertEqual((bool(shown), bool(odd)), (paper[0] == "signs", paper[0] == "halves"))
            for signs in all_signs(web):
                self.assertIs(totals_hold(web, totals, ("signs", signs)), signs in shown)
            for lot in lots if row is not None else []:
                self.assertIs(totals_hold(web, totals, ("halves", row, lot)), lot in odd)
        self.assertTrue(min(seen.values()) > 10, seen)

    def test_near_papers(self):
        rng = random.Random(137)
        for seed, web in enumerate(random_webs(138, 80, 4, 5, 0.15)):
            totals = some_totals(rng, web)
            paper = totals_paper(web, totals)
            for value in spoiled_sample(paper, seed, 100) + [(word,) + paper[1:] for word in ("whole", "halves", "signs")]:
                self.assertIs(totals_hold(web, totals, value), totals_by_hand(web, totals, value), value)
        for value in JUNK:
            for told in (value, ("whole", value), ("halves", value, (0, 1, 2)), ("halves", (1, 1, 1), value), ("signs", value)):
                self.assertIs(totals_hold(TRIANGLE, (1, 1, 1), told), totals_by_hand(TRIANGLE, (1, 1, 1), told), told)

    def test_great_webs(self):
        rng = random.Random(139)
        for loose in (0, 0.1):
            web = random_web(rng, 150, 360, loose)
            for at in range(4):
                totals = [rng.randint(-10 ** 21, 10 ** 21) for _ in range(150)]
                paper = totals_paper(web, totals)
                self.assertIs(totals_hold(web, totals, paper), True)
        both = side_by_side(random_forest(rng, 75, 0), random_web(rng, 75, 200, 0))
        for totals in ([0] * 150, [1] * 150, totals_of(both, [BIG] * len(both.ties))):
            self.assertIs(totals_hold(both, totals, totals_paper(both, totals)), True)

    def test_errors(self):
        totals = no_rows(InvalidTotals, 3, 5, NO_INTEGERS)
        check_errors(self, totals_paper, [TRIANGLE, (1, 1, 1)], [no_webs(), totals])
        check_errors(self, totals_hold, [TRIANGLE, (1, 1, 1), None], [no_webs(), totals, []])


class SwingsTest(unittest.TestCase):
    def test_by_hand(self):
        self.assertIn(fewest_swing(PIPES), ((1, -1, 0), (1, 0, -1), (0, 1, -1)))
        self.assertIsNone(fewest_swing(TRIANGLE))
        self.assertEqual(fewest_swing(FOURTH), (1, 0, 0, -1))
        self.assertEqual(fewest_swing(Web(1, [(0, -1), (0, 1)])), (1, 1))
        self.assertIsNone(fewest_swing(Web(1, [])))
        # Two odd rings and a way between: the way has twice as much.
        web = Web(4, [(0, 1, 1, 1), (0, 1, 1, -1), (1, 1, 2, -1), (2, 1, 3, 1), (2, 1, 3, -1)])
        self.assertEqual(fewest_swing(web), (1, -1, -2, -1, -1))

    def test_fewest_swings(self):
        rng = random.Random(140)
        seen = {True: 0, False: 0}
        for web in random_webs(141, 150, 5, 6, 0.2):
            swing = fewest_swing(web)
            self.assertEqual(swing is None, free_number(web) == 0)
            seen[swing is None] += 1
            if swing is not None:
                self.assertTrue(is_swing(web, swing))
                self.assertEqual(math.gcd(*swing), 1)
                self.assertGreater([x for x in swing if x][0], 0)
                self.assertLessEqual(max(map(abs, swing)), 2)
                many = len([x for x in swing if x])
                self.assertEqual(many, min(len([x for x in each if x]) for each in small_swings(web)))
        self.assertTrue(min(seen.values()) > 30, seen)
        web = random_web(rng, 150, 12, 0)
        self.assertEqual(fewest_swing(web) is None, free_number(web) == 0)

    def test_limit(self):
        for ties, refused in ((12, False), (13, True)):
            ring = Web(ties, [(at, 1, (at + 1) % ties, -1) for at in range(ties)])
            self.assertEqual(raised(fewest_swing, ring), error(InvalidSize, word="ties") if refused else (1,) * 12)
        check_errors(self, fewest_swing, [PIPES], [no_webs()])

    def test_like_ties(self):
        self.assertEqual(like_ties(PIPES), ((0, 1, 2),))
        self.assertEqual(like_ties(FOURTH), ((0, 3),))
        self.assertEqual(like_ties(TRIANGLE), ())
        web = Web(3, [(0, 1), (1, 1, 0, -1), (0, -1), (0, 1, 1, 1), (0, 1, 1, -1), (2, 1), (0, -1, 1, -1), (0, 1, 2, -1)])
        self.assertEqual(like_ties(web), ((0, 2), (1, 4), (3, 6)))
        for web in random_webs(142, 150, 3, 8, 0.4):
            lots = {}
            for number, tie in enumerate(web.ties):
                turned = tie if tie[1] == 1 else tuple(-x if at % 2 else x for at, x in enumerate(tie))
                lots.setdefault(turned, []).append(number)
            self.assertEqual(like_ties(web), tuple(tuple(lot) for lot in lots.values() if len(lot) > 1))
        check_errors(self, like_ties, [PIPES], [no_webs()])

    def test_wrong_readings(self):
        self.assertIsNone(wrong_readings(TRIANGLE, (1, 1, 2), (0, 1, 1)))
        self.assertEqual(wrong_readings(TRIANGLE, (1, 1, 2), [0, 1, 5]), ((2, 1),))
        self.assertEqual(wrong_readings(TRIANGLE, (1, 1, 2), [3, 1, 5]), ())
        self.assertEqual(wrong_readings(PIPES, (4, -4), (1, 1, 1)), ((0, 2), (1, 2), (2, 2)))
        self.assertEqual(wrong_readings(PIPES, (4, -3), (1, 1, 1)), ())
        self.assertEqual(wrong_readings(Web(1, []), (1,), ()), ())
        self.assertIsNone(wrong_readings(Web(1, []), (0,), []))
        rng = random.Random(143)
        for web in random_webs(144, 300, 4, 6, 0.3):
            row = [rng.randint(-3, 3) for _ in web.ties]
            totals = totals_of(web, row)
            self.assertIsNone(wrong_readings(web, totals, row))
            for tie in range(len(web.ties)):
                wrong = row[:tie] + [row[tie] + rng.choice((-2, -1, 1, BIG))] + row[tie + 1:]
                told = wrong_readings(web, totals, wrong)
                alike = [lot for lot in like_ties(web) if tie in lot] or [(tie,)]
                self.assertEqual([each[0] for each in told], list(alike[0]))
                self.assertIn((tie, row[tie]), told)
                for each, value in told:
                    right = wrong[:each] + [value] + wrong[each + 1:]
                    self.assertEqual(totals_of(web, right), totals)
            if len(row) > 1:
                other = [x + rng.randint(-1, 1) for x in row]
                told = wrong_readings(web, totals, other)
                fit = [(tie, value) for tie in range(len(row)) for value in range(-40, 41)
                       if totals_of(web, other[:tie] + [value] + other[tie + 1:]) == totals]
                self.assertEqual(told, None if totals_of(web, other) == totals else tuple(fit))

    def test_how_many_wrong_readings_are_seen(self):
        """At most so many, if each swing has more ties; put right by no others, if it has more than twice as many."""
        rng = random.Random(146)
        for web in random_webs(145, 100, 4, 5, 0.2):
            swing = fewest_swing(web)
            many = len([x for x in swing if x]) if swing else 99
            self.assertEqual(many > 2, not like_ties(web))
            self.assertGreater(many, 1)
            row = [rng.randint(-9, 9) for _ in web.ties]
            totals = totals_of(web, row)
            if swing:
                self.assertIsNone(wrong_readings(web, totals, [x + 3 * y for x, y in zip(row, swing)]))
            for size in range(1, min(many, len(row) + 1)):
                for wrong in itertools.combinations(range(len(row)), size):
                    told = [x + (rng.choice((-2, -1, 1, 2)) if tie in wrong else 0) for tie, x in enumerate(row)]
                    self.assertIsNotNone(wrong_readings(web, totals, told))

    def test_errors(self):
        totals = no_rows(InvalidTotals, 3, 5, NO_INTEGERS)
        check_errors(self, wrong_readings, [TRIANGLE, (1, 1, 2), (0, 1, 5)],
                     [no_webs(), totals, no_rows(InvalidRead, 3, 5, NO_INTEGERS)])


if __name__ == "__main__":
    unittest.main()
