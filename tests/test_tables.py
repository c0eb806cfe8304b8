"""[64], [65]: tables with holes, and what is to be read first."""

import itertools
import random
import unittest

from pushtells.courts import court2, court3
from pushtells.errors import InvalidHoles, InvalidLot, InvalidPrices, InvalidSize
from pushtells.pieces import court1
from pushtells.tables import fewest_read, hole_groups, is_trusted, read_holds, read_paper, table_web
from pushtells.webs import Web
from tests.helpers import (JUNK, NO_INTEGERS, NO_SEQUENCES, check_errors, error, lots_by_hand, no_rows, raised,
                           spoiled_sample)

BIG = 10 ** 9


def cells(rows, columns):
    return [(row, column) for row in range(rows) for column in range(columns)]


def random_tables(seed, many, most, lines=4):
    """(rows, columns, holes) with so many holes at most, in a mixed order."""
    rng = random.Random(seed)
    for _ in range(many):
        rows, columns = rng.randint(1, lines), rng.randint(1, lines)
        told = cells(rows, columns)
        yield rows, columns, rng.sample(told, max(rng.randint(0, min(most, len(told))) for _ in range(2)))


def groups_by_hand(rows, columns, holes):
    web = Web(rows + columns, [(row, 1, rows + column, 1) for row, column in holes])
    found = []
    for lot in lots_by_hand(web):
        told = tuple(at for at, hole in enumerate(holes) if hole[0] in lot)
        if told:
            found.append((tuple(x for x in lot if x < rows), tuple(x - rows for x in lot if x >= rows), told))
    return tuple(sorted(found))


def trusted_lots(rows, columns, holes):
    """All lots of holes behind whose reading the table of the others is trusted, by the first court."""
    found = []
    for many in range(len(holes) + 1):
        for lot in itertools.combinations(range(len(holes)), many):
            rest = [hole for at, hole in enumerate(holes) if at not in lot]
            if court1(table_web(rows, columns, rest, [])):
                found.append(lot)
    return found


def price_of(prices, lot):
    return sum(prices[at] for at in lot)


def no_tables():
    """Of rows, columns and holes, for a table of 3 by 4."""
    rows = [(value, error(InvalidSize, word="rows")) for value in NO_INTEGERS + [0, -1, 1000, 10 ** 30]]
    columns = [(value, error(InvalidSize, word="columns")) for value in NO_INTEGERS + [0, -1, 998, 10 ** 30]]
    holes = [(value, error(InvalidHoles, at=-1)) for value in NO_SEQUENCES + [[(0, 0)] * 3001, (None,) * 3001]]
    for bad in NO_SEQUENCES + [(), (0,), (0, 0, 0), (3, 0), (0, 4), (-1, 0), (0, -1), (True, 0), (0, False), ("0", 1),
                               (0, None), ((0, 1), 2), (0, 1), [0, 1]]:
        holes += [([(0, 1), bad, None], error(InvalidHoles, at=1)), (((2, 3), (0, 1), (1, 1), bad), error(InvalidHoles,
                                                                                                          at=3))]
    return [rows, columns, holes]


class TableTest(unittest.TestCase):
    def test_by_hand(self):
        web = table_web(2, 3, [(1, 2), (0, 0), [1, 0]], [("column", 2), ["row", 0]])
        self.assertEqual(web, Web(5, [(1, 1, 4, 1), (0, 1, 2, 1), (1, 1, 2, 1), (4, -1), (0, -1)]))
        self.assertEqual(table_web(1, 1, [], []), Web(2, []))
        self.assertEqual(hole_groups(3, 3, [(2, 2), (0, 1), (2, 0)]), (((0,), (1,), (1,)), ((2,), (0, 2), (0, 2))))
        self.assertEqual(hole_groups(3, 3, []), ())
        self.assertEqual([is_trusted(2, wide, cells(2, wide)) for wide in (2, 3)], [True, False])
        self.assertEqual(fewest_read(3, 3, cells(3, 3)), 3)

    def test_full_tables(self):
        for rows, columns in itertools.product(range(1, 6), repeat=2):
            told = rows == 1 or columns == 1 or (rows, columns) == (2, 2)
            self.assertIs(is_trusted(rows, columns, cells(rows, columns)), told)
            self.assertEqual(fewest_read(rows, columns, cells(rows, columns)),
                             max(0, rows * columns - rows - columns))

    def test_groups_and_courts(self):
        seen = {"fewer": 0, "as many": 0, "more": 0}
        rng = random.Random(111)
        for rows, columns, holes in random_tables(112, 400, 12):
            web = table_web(rows, columns, holes, [])
            groups = hole_groups(rows, columns, holes)
            self.assertEqual(groups, groups_by_hand(rows, columns, holes))
            told = is_trusted(rows, columns, holes)
            self.assertEqual((court1(web), court2(web)), (told, told))
            self.assertIs(told, all(len(at) <= len(one) + len(other) for one, other, at in groups))
            for one, other, at in groups:
                beyond = len(at) - len(one) - len(other)
                seen["more" if beyond > 0 else "as many" if beyond == 0 else "fewer"] += 1
            lines = [("row", at) for at in range(rows)] + [("column", at) for at in range(columns)]
            loose = rng.sample(lines, rng.randint(0, len(lines)))
            self.check_loose(rows, columns, holes, loose)
        self.assertTrue(min(seen.values()) > 30, seen)

    def check_loose(self, rows, columns, holes, loose):
        """Loose lines are nothing to the first two courts; with the third one each group is a tree or a closed ring."""
        web = table_web(rows, columns, holes, loose)
        points = [at if word == "row" else rows + at for word, at in loose]
        self.assertEqual(web.ties[len(holes):], tuple((point, -1) for point in points))
        self.assertEqual((court1(web), court2(web)), (is_trusted(rows, columns, holes),) * 2)
        right = True
        for one, other, at in hole_groups(rows, columns, holes):
            ends = list(one) + [rows + column for column in other]
            free = any(point in points for point in ends)
            right = right and len(at) <= len(ends) - (1 if free else 0)
        self.assertEqual(court3(web), right)

    def test_errors(self):
        wrong = no_tables()
        loose = [(value, error(InvalidLot, at=-1)) for value in NO_SEQUENCES + [[("row", 0)] * 3000]]
        for bad in NO_SEQUENCES + [(), ("row",), ("row", 0, 0), ("row", 3), ("column", 4), ("row", -1), ("row", True),
                                   ("rows", 0), (0, "row"), (None, 0), (True, 0), ("row", None), ("column", (1,)),
                                   ("row", 1), ["row", 1], (Web(1, []), 0)]:
            loose.append(([("column", 1), ("row", 1), bad, None], error(InvalidLot, at=2)))
        fit = [3, 4, [(0, 0), (2, 3)], [("row", 2)]]
        check_errors(self, table_web, fit, wrong + [loose])
        for call in (hole_groups, is_trusted, fewest_read):
            check_errors(self, call, fit[:3], wrong)
        prices = no_rows(InvalidPrices, 2, 1, NO_INTEGERS + [0, -1, BIG + 1, 10 ** 30])
        check_errors(self, read_paper, fit[:3] + [(1, BIG)], wrong + [prices])
        check_errors(self, read_holds, fit[:3] + [(1, BIG), ()], wrong + [prices, []])

    def test_sizes(self):
        self.assertEqual(table_web(999, 1, [(998, 0)], [("column", 0)]).points, 1000)
        self.assertEqual(table_web(1, 999, [(0, 998)], []).points, 1000)
        self.assertEqual(raised(table_web, 999, 2, [], []), error(InvalidSize, word="columns"))
        self.assertEqual(raised(is_trusted, 500, 501, []), error(InvalidSize, word="columns"))
        many = cells(60, 50)
        self.assertEqual(len(table_web(60, 50, many, []).ties), 3000)
        self.assertEqual(raised(table_web, 60, 50, many, [("row", 0)]), error(InvalidLot, at=-1))
        self.assertEqual(raised(table_web, 60, 50, many, [None]), error(InvalidLot, at=-1))
        self.assertEqual(len(table_web(60, 50, many[1:], [("row", 0)]).ties), 3000)
        more = cells(61, 50)[:3001]
        self.assertEqual(raised(table_web, 61, 50, more, []), error(InvalidHoles, at=-1))
        self.assertEqual(raised(fewest_read, 61, 50, more), error(InvalidHoles, at=-1))
        self.assertEqual(fewest_read(60, 50, many), 3000 - 110)
        self.assertEqual(read_paper(1, 2, [(0, 0), (0, 1)], (1, BIG)), ())
        self.assertIs(read_holds(1, 2, [(0, 0), (0, 1)], (BIG, 1), ()), True)


class ReadTest(unittest.TestCase):
    def test_by_hand(self):
        self.assertEqual(read_paper(2, 2, cells(2, 2), (1, 1, 1, 1)), ())
        told = read_paper(2, 3, cells(2, 3), (5, 4, 3, 2, 1, 6))
        self.assertEqual(told, (4,))
        self.assertIs(read_holds(2, 3, cells(2, 3), (5, 4, 3, 2, 1, 6), (3,)), False)
        for lot in ((0,), (5,)):
            self.assertIs(read_holds(2, 3, cells(2, 3), (7,) * 6, lot), True)
        self.assertIs(read_holds(2, 3, cells(2, 3), (7,) * 6, ()), False)
        self.assertIs(read_holds(2, 3, cells(2, 3), (7,) * 6, (0, 5)), False)

    def test_all_lots(self):
        rng = random.Random(113)
        seen = {0: 0, 1: 0, 2: 0}
        for rows, columns, holes in list(random_tables(114, 80, 9, 3)) + [(3, 3, cells(3,
                                                                                       3)[at:]) for at in range(4)] * 2:
            lots = trusted_lots(rows, columns, holes)
            fewest = min(len(lot) for lot in lots)
            self.assertEqual(fewest_read(rows, columns, holes), fewest)
            self.assertEqual(fewest, sum(max(0, len(at) - len(one) - len(other)) for one, other, at
                                         in hole_groups(rows, columns, holes)))
            seen[min(fewest, 2)] += 1
            for prices in ([1] * len(holes), [rng.randint(1, 4) for _ in holes], [rng.randint(1, BIG) for _ in holes]):
                least = min(price_of(prices, lot) for lot in lots)
                told = read_paper(rows, columns, holes, prices)
                self.assertIn(told, lots)
                self.assertEqual(price_of(prices, told), least)
                for many in range(len(holes) + 1):
                    for lot in itertools.combinations(range(len(holes)), many):
                        right = lot in lots and price_of(prices, lot) == least
                        self.assertIs(read_holds(rows, columns, holes, prices, lot), right)
                for lot in lots:
                    self.assertEqual(price_of(prices, lot) == least, self.needs_no_change(lots, len(holes), prices,
                                                                                          lot))
        self.assertTrue(min(seen.values()) > 5, seen)

    def needs_no_change(self, lots, many, prices, lot):
        """None of the read ones could be kept besides, none of them is dearer than one in whose place it could be."""
        less = [tuple(x for x in lot if x != at) for at in lot]
        if any(other in lots for other in less):
            return False
        for at, rest in zip(lot, less):
            for kept in range(many):
                if kept not in lot and tuple(sorted(rest + (kept,))) in lots and prices[at] > prices[kept]:
                    return False
        return True

    def test_near_papers(self):
        rng = random.Random(115)
        for at, (rows, columns, holes) in enumerate(random_tables(116, 60, 12)):
            prices = [rng.randint(1, 3) for _ in holes]
            lots = {}
            paper = read_paper(rows, columns, holes, prices)
            self.assertIs(read_holds(rows, columns, holes, prices, paper), True)
            for value in spoiled_sample(paper, at, 30):
                fine = type(value) is tuple and all(type(x) is int and 0 <= x < len(holes) for x in value)
                fine = fine and list(value) == sorted(set(value)) and price_of(prices, value) == price_of(prices, paper)
                if fine:
                    rest = [hole for x, hole in enumerate(holes) if x not in value]
                    fine = lots.setdefault(value, court1(table_web(rows, columns, rest, [])))
                self.assertIs(read_holds(rows, columns, holes, prices, value), fine, value)
        for value in JUNK + [(True,), [4], (4, 4), (4, 5), (5, 4), (6,), (-1,), ((4,),)]:
            self.assertIs(read_holds(2, 3, cells(2, 3), (2, 2, 2, 2, 1, 2), value), False)
        self.assertIs(read_holds(2, 3, cells(2, 3), (2, 2, 2, 2, 1, 2), (4,)), True)

    def test_great_tables(self):
        rng = random.Random(117)
        for rows in (50, 10, 97):
            columns = 100 - rows
            holes = rng.sample(cells(rows, columns), 250)
            prices = [rng.randint(1, BIG) for _ in holes]
            told = read_paper(rows, columns, holes, prices)
            self.assertEqual(len(told), fewest_read(rows, columns, holes))
            rest = [hole for at, hole in enumerate(holes) if at not in told]
            self.assertIs(is_trusted(rows, columns, rest), True)
            self.assertIs(court1(table_web(rows, columns, rest, [])), True)
            self.assertIs(is_trusted(rows, columns, holes), court1(table_web(rows, columns, holes, [])))
            few = holes[:60]
            paper = read_paper(rows, columns, few, prices[:60])
            self.assertIs(read_holds(rows, columns, few, prices[:60], paper), True)


if __name__ == "__main__":
    unittest.main()
