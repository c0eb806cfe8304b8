"""[44] to [48]: what must be read."""

import itertools
import random
import unittest

from pushtells.errors import InvalidLot, InvalidPrices, InvalidSize, InvalidTie, Refused
from pushtells.readings import (cheapest_holds, cheapest_paper, cheapest_readings, enough_holds, enough_paper,
                                exchanged_ties, lot_holds, lot_number, lot_paper, readings_hold, readings_paper,
                                weighed_count)
from pushtells.totals import closed_evens, free_number, told_by
from pushtells.webs import Web, components, ring_count, side_by_side, struck
from tests.helpers import (JUNK, NO_INTEGERS, PIPES, TRIANGLE, all_rings, check_errors, doubles, error,
                           no_lots, no_rows, no_webs, raised, random_forest, random_web, random_webs,
                           sign_of, spoiled_sample, told_as, totals_of)
from tests.ranks import (are_rows, are_swings, columns, determinant, fewest_lots, is_enough, is_lot, is_swing, pulls,
                         small_swings, telling_signs, tells)

BIG = 10 ** 18
FOURTH = Web(3, list(TRIANGLE.ties) + [TRIANGLE.ties[0]])


def unread(web, lot):
    return [tie for tie in range(len(web.ties)) if tie not in lot]


def some_lot(rng, web, share=0.4):
    lot = [tie for tie in range(len(web.ties)) if rng.random() < share]
    rng.shuffle(lot)
    return lot


def enough_by_hand(web, lot, value):
    if told_as(value, "enough", 2):
        return are_rows(web, value[1], unread(web, lot), unread(web, lot))
    return told_as(value, "swing", 2) and is_swing(web, value[1], lot)


def readings_by_hand(web, value):
    if type(value) is not tuple or len(value) != 3 or not is_lot(web, value[0], free_number(web)):
        return False
    rest = unread(web, value[0])
    return are_rows(web, value[1], rest, rest) and are_swings(web, value[2], value[0])


def cheapest_by_hand(web, prices, value):
    if type(value) is not tuple or len(value) != 3 or type(value[0]) is not int:
        return False
    if not is_lot(web, value[1], free_number(web)) or value[0] != sum(prices[tie] for tie in value[1]):
        return False
    rest = unread(web, value[1])
    if not are_rows(web, value[2], rest, rest):
        return False
    return all(not pulls(web, signs)[read] or prices[read] <= prices[tie] for tie, signs in value[2] for read in value[1])


def lot_by_hand(web, lot, value):
    if type(value) is not tuple or len(value) != 3 or not is_lot(web, value[0]) or not set(value[0]) <= set(lot):
        return False
    told = sorted(set(lot) - set(value[0]))
    return are_rows(web, value[1], told, unread(web, value[0])) and are_swings(web, value[2], value[0])


def fewest_for(web, lot):
    """The fewest ties, any, that tell all of the lot."""
    for many in range(len(web.ties) + 1):
        for read in itertools.combinations(range(len(web.ties)), many):
            if all(tells(web, read, tie) for tie in lot):
                return many
    return None


class EnoughTest(unittest.TestCase):
    def test_by_hand(self):
        self.assertEqual(enough_paper(Web(1, []), ()), ("enough", ()))
        word, rows = enough_paper(TRIANGLE, [])
        self.assertEqual((word, [row[0] for row in rows]), ("enough", [0, 1, 2]))
        self.assertIn(rows[0][1], ((1, 1, -1), (-1, -1, 1)))
        self.assertEqual(enough_paper(FOURTH, ())[0], "swing")
        self.assertEqual([enough_paper(FOURTH, [tie])[0] for tie in range(4)], ["enough", "swing", "swing", "enough"])
        self.assertIs(enough_holds(FOURTH, (), ("swing", (-3, 0, 0, 3))), True)
        self.assertIs(enough_holds(FOURTH, (0,), ("swing", (-3, 0, 0, 3))), False)
        self.assertIs(enough_holds(FOURTH, (), ("swing", (0, 0, 0, 0))), False)
        self.assertIs(enough_holds(PIPES, [2, 0], ("enough", ((1, (0, 1)),))), True)
        self.assertIs(enough_holds(PIPES, [2, 0], ("enough", ((1, (1, 1)),))), False)
        self.assertEqual(enough_paper(PIPES, (0, 1, 2)), ("enough", ()))

    def test_just_one_kind(self):
        rng = random.Random(151)
        seen = {"enough": 0, "swing": 0}
        for web in random_webs(152, 300, 5, 7, 0.2):
            lot = some_lot(rng, web)
            paper = enough_paper(web, lot)
            seen[paper[0]] += 1
            self.assertEqual(paper[0], "enough" if is_enough(web, lot) else "swing")
            self.assertIs(enough_holds(web, lot, paper), True)
            self.assertTrue(enough_by_hand(web, lot, paper))
            self.assertEqual(paper[0] == "enough", told_by(web, lot) == tuple(range(len(web.ties))))
            # Each component of the others is a tree, with one loose tie at most, or has one ring, an odd one.
            rest = struck(web, lot)
            fit = True
            rings = [ring for ring in all_rings(rest) if sign_of(rest, ring) == 1]
            for lot_of, many in zip(components(rest), ring_count(rest)):
                loose = len([tie for tie in rest.ties if len(tie) == 2 and tie[0] in lot_of])
                even = any(rest.ties[ring[0]][0] in lot_of for ring in rings)
                fit = fit and many + loose <= 1 and not even
            self.assertEqual(paper[0] == "enough", fit)
        self.assertTrue(min(seen.values()) > 60, seen)

    def test_all_rows(self):
        rng = random.Random(153)
        for web in random_webs(154, 60, 4, 5, 0.2):
            lot = some_lot(rng, web, 0.5)
            rest = unread(web, lot)
            choices = [telling_signs(web, tie, rest) for tie in rest]
            if is_enough(web, lot):
                for picked in itertools.islice(itertools.product(*choices), 60):
                    self.assertIs(enough_holds(web, lot, ("enough", tuple(zip(rest, picked)))), True)
                for swing in small_swings(web, 1)[:9]:
                    self.assertIs(enough_holds(web, lot, ("swing", swing)), False)
            else:
                self.assertTrue(not all(choices))
                held = [swing for swing in small_swings(web) if not any(swing[tie] for tie in lot)]
                self.assertTrue(held)
                for swing in small_swings(web)[:40]:
                    self.assertIs(enough_holds(web, lot, ("swing", swing)), swing in held)

    def test_near_papers(self):
        rng = random.Random(155)
        for seed, web in enumerate(random_webs(156, 80, 4, 6, 0.2)):
            lot = some_lot(rng, web, 0.5)
            paper = enough_paper(web, lot)
            for value in spoiled_sample(paper, seed, 120) + [("enough", paper[1]), ("swing", paper[1])]:
                self.assertIs(enough_holds(web, lot, value), enough_by_hand(web, lot, value), value)
        for value in JUNK:
            for told in (value, ("enough", value), ("swing", value), ("enough", (value,)), ("enough", ((1, value),))):
                self.assertIs(enough_holds(PIPES, (0, 2), told), enough_by_hand(PIPES, (0, 2), told), told)

    def test_errors(self):
        check_errors(self, enough_paper, [FOURTH, ()], [no_webs(), no_lots(4)])
        check_errors(self, enough_holds, [FOURTH, (), None], [no_webs(), no_lots(4), []])


class FewestTest(unittest.TestCase):
    def test_by_hand(self):
        self.assertEqual(readings_paper(Web(2, [])), ((), (), ()))
        lot, rows, swings = readings_paper(FOURTH)
        self.assertIn(lot, ((0,), (3,)))
        self.assertIs(readings_hold(FOURTH, ((3,), rows, swings)), lot == (3,))
        row = ((0, (1, 1, -1)), (1, (-1, 1, 1)), (2, (1, -1, 1)))
        self.assertIs(readings_hold(FOURTH, ((3,), row, ((1, 0, 0, -1),))), True)
        self.assertIs(readings_hold(FOURTH, ((3,), row, ((7, 0, 0, -7),))), True)
        self.assertIs(readings_hold(FOURTH, ((3,), row, ())), False)
        self.assertIs(readings_hold(FOURTH, ((3,), row[::-1], ((1, 0, 0, -1),))), False)
        self.assertIs(readings_hold(FOURTH, ((0, 3), row[1:], ((1, 0, 0, -1),) * 2)), False)

    def test_fewest(self):
        for web in random_webs(157, 200, 5, 7, 0.2):
            paper = readings_paper(web)
            self.assertIs(readings_hold(web, paper), True)
            self.assertTrue(readings_by_hand(web, paper))
            self.assertIn(paper[0], fewest_lots(web))
            many = free_number(web)
            fewer = itertools.combinations(range(len(web.ties)), max(many - 1, 0)) if many else []
            self.assertFalse(any(is_enough(web, lot) for lot in fewer))

    def test_near_papers(self):
        for seed, web in enumerate(random_webs(158, 80, 4, 6, 0.2)):
            paper = readings_paper(web)
            for value in spoiled_sample(paper, seed, 150):
                self.assertIs(readings_hold(web, value), readings_by_hand(web, value), value)
        for value in JUNK + [(value, value, value) for value in JUNK] + [((3,), value, value) for value in JUNK]:
            self.assertIs(readings_hold(FOURTH, value), readings_by_hand(FOURTH, value), value)

    def test_great_webs(self):
        rng = random.Random(159)
        for loose in (0, 0.1):
            web = random_web(rng, 150, 360, loose)
            paper = readings_paper(web)
            self.assertEqual((len(paper[0]), readings_hold(web, paper)), (free_number(web), True))
            prices = [rng.randint(0, BIG) for _ in web.ties]
            told = cheapest_paper(web, prices)
            self.assertEqual((told[1], cheapest_holds(web, prices, told)), (cheapest_readings(web, prices), True))
            lot = rng.sample(range(360), 200)
            self.assertIs(lot_holds(web, lot, lot_paper(web, lot)), True)
            self.assertEqual(len(lot_paper(web, lot)[0]), lot_number(web, lot))
            more = [tie for tie in unread(web, told[1])][:1]
            self.assertEqual(enough_paper(web, told[1] + tuple(more))[0], "enough")
            self.assertEqual(enough_paper(web, told[1][1:])[0], "swing")

    def test_errors(self):
        check_errors(self, readings_paper, [PIPES], [no_webs()])
        check_errors(self, readings_hold, [PIPES, None], [no_webs(), []])


class CheapestTest(unittest.TestCase):
    def test_by_hand(self):
        self.assertEqual(cheapest_readings(FOURTH, (5, 0, 0, 5)), (0,))
        self.assertEqual(cheapest_readings(FOURTH, [5, 0, 0, 4]), (3,))
        self.assertEqual(cheapest_readings(PIPES, (1, 1, 1)), (0, 1))
        self.assertEqual(cheapest_readings(PIPES, (1, 2, 1)), (0, 2))
        self.assertEqual(cheapest_readings(PIPES, (BIG, 2, BIG - 1)), (1, 2))
        self.assertEqual(cheapest_paper(Web(1, []), ()), (0, (), ()))
        row = ((2, (1, 0)),)
        self.assertEqual(cheapest_paper(PIPES, (1, 2, 1))[:2], (2, (0, 2)))
        self.assertIs(cheapest_holds(PIPES, (1, 1, 1), (2, (0, 1), row)), True)
        self.assertIs(cheapest_holds(PIPES, (1, 1, 2), (2, (0, 1), row)), True)
        for prices, total in (((2, 1, 1), 3), ((1, 1, 0), 2), ((1, 1, 1), 3)):
            self.assertIs(cheapest_holds(PIPES, prices, (total, (0, 1), row)), False)

    def test_more_than_wanted_is_not_cheapest(self):
        rows = ((1, (-1, 1, 1)), (2, (1, -1, 1)))
        self.assertIs(enough_holds(FOURTH, (0, 3), ("enough", rows)), True)
        for prices in ((0, 0, 0, 0), (0, 1, 1, 0)):
            self.assertIs(cheapest_holds(FOURTH, prices, (0, (0, 3), rows)), False)
            self.assertIs(cheapest_holds(FOURTH, prices, (0, (0,), rows + ((3, (1, 1, -1)),))), True)

    def test_cheapest(self):
        rng = random.Random(160)
        for web in random_webs(161, 200, 5, 7, 0.2):
            prices = [rng.choice((0, 1, 2, BIG)) for _ in web.ties]
            lots = fewest_lots(web)
            least = min(sum(prices[tie] for tie in lot) for lot in lots)
            cheap = [lot for lot in lots if sum(prices[tie] for tie in lot) == least]
            self.assertEqual(cheapest_readings(web, prices), min(cheap))
            paper = cheapest_paper(web, prices)
            self.assertEqual((paper[0], paper[1] in cheap), (least, True))
            self.assertIs(cheapest_holds(web, prices, paper), True)
            self.assertTrue(cheapest_by_hand(web, prices, paper))
            # Rows by nothing dearer are there exactly if no lot costs less.
            for lot in lots[:12]:
                rest = unread(web, lot)
                rows = tuple((tie, telling_signs(web, tie, rest)[0]) for tie in rest)
                total = sum(prices[tie] for tie in lot)
                self.assertIs(cheapest_holds(web, prices, (total, lot, rows)), lot in cheap)

    def test_near_papers(self):
        rng = random.Random(162)
        for seed, web in enumerate(random_webs(163, 60, 4, 6, 0.2)):
            prices = [rng.randint(0, 3) for _ in web.ties]
            paper = cheapest_paper(web, prices)
            for value in spoiled_sample(paper, seed, 150):
                self.assertIs(cheapest_holds(web, prices, value), cheapest_by_hand(web, prices, value), value)
        for value in JUNK + [(value, value, value) for value in JUNK] + [(2, (0, 1), value) for value in JUNK]:
            self.assertIs(cheapest_holds(PIPES, (1, 1, 1), value), cheapest_by_hand(PIPES, (1, 1, 1), value), value)

    def test_exchange(self):
        rng = random.Random(164)
        seen = 0
        for web in random_webs(165, 200, 5, 7, 0.2):
            lots = fewest_lots(web)
            one, other = list(rng.choice(lots)), list(rng.choice(lots))
            rng.shuffle(one)
            rng.shuffle(other)
            for tie in range(len(web.ties)):
                if tie not in one or tie in other:
                    self.assertEqual(raised(exchanged_ties, web, one, other, tie), error(InvalidTie, at=-1))
                    continue
                seen += 1
                fit = [x for x in sorted(other) if tuple(sorted(set(one) - {tie} | {x})) in lots]
                self.assertEqual(exchanged_ties(web, one, other, tie), tuple(fit))
                self.assertTrue(fit)
        self.assertGreater(seen, 60)

    def test_exchange_is_refused(self):
        self.assertEqual(exchanged_ties(PIPES, (0, 1), (2, 1), 0), (2,))
        fit = [PIPES, (0, 1), (1, 2), 0]
        ones = no_lots(3) + [(lot, error(Refused, at="one")) for lot in ((), (0,), [0, 1, 2], [2])]
        others = no_lots(3) + [(lot, error(Refused, at="other")) for lot in ((), (0,), [0, 1, 2], [2])]
        ties = [(value, error(InvalidTie, at=-1)) for value in NO_INTEGERS + [1, 2, 3, -1, BIG]]
        check_errors(self, exchanged_ties, fit, [no_webs(), ones, others, ties])
        # As few as can be, but not enough.
        self.assertEqual(raised(exchanged_ties, FOURTH, (1,), (0,), 1), error(Refused, at="one"))
        self.assertEqual(raised(exchanged_ties, FOURTH, (3,), (1,), 3), error(Refused, at="other"))
        self.assertEqual(exchanged_ties(FOURTH, (3,), (0,), 3), (0,))

    def test_errors(self):
        prices = no_rows(InvalidPrices, 3, 0, NO_INTEGERS + [-1, -BIG])
        check_errors(self, cheapest_readings, [PIPES, (1, 1, 1)], [no_webs(), prices])
        check_errors(self, cheapest_paper, [PIPES, (1, 1, 1)], [no_webs(), prices])
        check_errors(self, cheapest_holds, [PIPES, (1, 1, 1), None], [no_webs(), prices, []])


class LotTest(unittest.TestCase):
    def test_by_hand(self):
        self.assertEqual([lot_number(FOURTH, lot) for lot in ((), [0], [1, 2], [0, 3], [3, 2, 1, 0])], [0, 1, 0, 1, 1])
        self.assertEqual(lot_paper(FOURTH, [1])[0], ())
        self.assertEqual(lot_paper(FOURTH, ()), ((), (), ()))
        self.assertEqual(lot_paper(FOURTH, [3])[0], (3,))
        self.assertIn(lot_paper(FOURTH, [3, 0])[0], ((0,), (3,)))
        rows = ((0, (1, 1, -1)),)
        self.assertIs(lot_holds(FOURTH, (0, 3), ((3,), rows, ((1, 0, 0, -1),))), True)
        self.assertIs(lot_holds(FOURTH, (0,), ((3,), rows, ((1, 0, 0, -1),))), False)
        both = side_by_side(PIPES, PIPES)
        for swing in ((1, -1, 0, 0, 0, 0), (2, -1, -1, 5, -5, 0), (0, 1, -1, 0, 0, 0), (0, 0, 0, 1, -1, 0)):
            self.assertIs(lot_holds(both, (0,), ((0,), (), (swing,))), swing[0] != 0)

    def test_fewest_for_lots(self):
        rng = random.Random(166)
        for web in random_webs(167, 120, 4, 6, 0.2):
            lot = some_lot(rng, web, 0.5)
            many = lot_number(web, lot)
            self.assertEqual(many, fewest_for(web, lot))
            self.assertEqual(many, len(lot) - len(closed_evens(struck(web, lot))) + len(closed_evens(web)))
            paper = lot_paper(web, lot)
            self.assertEqual(len(paper[0]), many)
            self.assertIs(lot_holds(web, lot, paper), True)
            self.assertTrue(lot_by_hand(web, lot, paper))

    def test_near_papers(self):
        rng = random.Random(168)
        for seed, web in enumerate(random_webs(169, 80, 4, 6, 0.2)):
            lot = some_lot(rng, web, 0.6)
            paper = lot_paper(web, lot)
            for value in spoiled_sample(paper, seed, 150):
                self.assertIs(lot_holds(web, lot, value), lot_by_hand(web, lot, value), value)
        for value in JUNK + [(value, value, value) for value in JUNK] + [((0,), value, value) for value in JUNK]:
            self.assertIs(lot_holds(PIPES, (2, 0), value), lot_by_hand(PIPES, (2, 0), value), value)

    def test_errors(self):
        check_errors(self, lot_number, [PIPES, (0,)], [no_webs(), no_lots(3)])
        check_errors(self, lot_paper, [PIPES, (0,)], [no_webs(), no_lots(3)])
        check_errors(self, lot_holds, [PIPES, (0,), None], [no_webs(), no_lots(3), []])
        self.assertEqual(raised(lot_number, PIPES, (0, 0)), error(InvalidLot, at=1))


class CountTest(unittest.TestCase):
    def test_by_hand(self):
        self.assertEqual([weighed_count(web) for web in (PIPES, TRIANGLE, FOURTH, Web(1, []), Web(3, []))],
                         [3, 4, 8, 1, 1])
        self.assertEqual(weighed_count(Web(1, [(0, 1)] * 5)), 5)

    def test_lots_weighed(self):
        for web in random_webs(170, 200, 5, 7, 0.2):
            rings = [set(ring) for ring in all_rings(web) if sign_of(web, ring) == -1]
            told = 0
            for lot in fewest_lots(web):
                inside = {frozenset(ring) for ring in rings if not ring & set(lot)}
                told += 4 ** len(inside)
            self.assertEqual(weighed_count(web), told)
            if all(sign_of(web, (tie,)) == 1 for tie in doubles(web)):
                self.assertEqual(weighed_count(web), len(fewest_lots(web)))

    def test_determinant(self):
        for web in random_webs(171, 40, 12, 30, 0.1):
            table = columns(web)
            struck_points = [signs.index(1) for signs in closed_evens(web)]
            kept = [point for point in range(web.points) if point not in struck_points]
            rows = [[sum(x[one] * x[other] for x in table) for other in kept] for one in kept]
            self.assertEqual(weighed_count(web), determinant(rows))

    def test_limit(self):
        rng = random.Random(172)
        self.assertGreater(weighed_count(random_web(rng, 40, 360)), 10 ** 20)
        self.assertEqual(raised(weighed_count, random_web(rng, 41, 5)), error(InvalidSize, word="points"))
        self.assertEqual(weighed_count(random_forest(rng, 40, 0)), 1)
        check_errors(self, weighed_count, [PIPES], [no_webs()])

    def test_swings_leave_totals(self):
        """What papers of readings promise: rows with like totals, alike at the lot, are one."""
        rng = random.Random(173)
        for web in random_webs(174, 60, 4, 6, 0.2):
            lot, _, swings = readings_paper(web)
            row = [rng.randint(-5, 5) for _ in web.ties]
            for tie, swing in zip(lot, swings):
                other = [x + y for x, y in zip(row, swing)]
                self.assertEqual(totals_of(web, other), totals_of(web, row))
                self.assertNotEqual(other[tie], row[tie])


if __name__ == "__main__":
    unittest.main()
