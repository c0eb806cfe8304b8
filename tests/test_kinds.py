"""[62], [63]: webs of accounts and of like signs, turnings, most ties."""

import itertools
import random
import unittest

from pushtells.courts import court2
from pushtells.errors import InvalidSize, InvalidTies
from pushtells.kinds import (accounts_web, alike_web, even_turning, fullest_alike, fullest_plain, most_alike,
                             most_plain,
                             odd_turning)
from pushtells.pieces import court1
from pushtells.webs import Web, tie_kind, turned
from tests.helpers import (MIXED, NO_INTEGERS, NO_SEQUENCES, PIPES, SIGNS, TRIANGLE, all_rings, check_errors, doubles,
                           ends_of, error, lots_by_hand, no_webs, raised, random_webs, sign_of)


def no_sizes(most=1000):
    return [(value, error(InvalidSize, word="points")) for value in NO_INTEGERS + [0, -1, most + 1, 10 ** 30]]


def turnings_by_hand(web, kind):
    """All lots of points, none the least one of its component, by which all ties of two points are of a kind."""
    free = [point for lot in lots_by_hand(web) for point in lot[1:]]
    found = []
    for many in range(len(free) + 1):
        for lot in itertools.combinations(sorted(free), many):
            told = turned(web, lot)
            if all(tie_kind(told, tie) == kind for tie in doubles(web)):
                found.append(lot)
    return found


def grown(rng, points, signs, twice):
    """Ties in a mixed order, each added as long as the first court says yes."""
    pairs = list(itertools.combinations(range(points), 2))
    due = [(a, 1, b, sign) for a, b in pairs for sign in signs for _ in range(twice)]
    rng.shuffle(due)
    ties = []
    for tie in due:
        fresh = twice > 1 or all((tie[0], tie[2]) != (told[0], told[2]) for told in ties)
        if fresh and court1(Web(points, ties + [tie])):
            ties.append(tie)
    return len(ties)


class MadeTest(unittest.TestCase):
    def test_accounts(self):
        web = accounts_web(3, [(0, 1), (2, 0), (1, None), [None, 2], (0, 1)])
        self.assertEqual(web, Web(3, [(0, -1, 1, 1), (2, -1, 0, 1), (1, -1), (2, 1), (0, -1, 1, 1)]))
        self.assertEqual(accounts_web(1, []), Web(1, []))
        self.assertEqual([tie_kind(web, tie) for tie in range(5)], ["even", "even", "loose", "loose", "even"])

    def test_alike(self):
        web = alike_web(3, [(0, 1), (2, 0), (1,), [2]])
        self.assertEqual(web, Web(3, [(0, 1, 1, 1), (0, 1, 2, 1), (1, 1), (2, 1)]))
        self.assertEqual([tie_kind(web, tie) for tie in range(4)], ["odd", "odd", "loose", "loose"])

    def test_errors(self):
        odd = [value for value in NO_SEQUENCES + [[], (), (0, 0), (0, 1, 1), (0, 3), (-1, 0), (0, True), (True,), (3,),
                                                  ("0", 1), (0, (1,)), (0, False), [[0], [1]], (None, None, 0)]]
        for call, fit, more in ((accounts_web, (0, 1), [(None, None), (None, 3), (0,), (None,), (-1, None), (True,
                                                                                                             None)]),
                                (alike_web, (0,), [(None, 0), (0, None), (None,)])):
            ties = [(value, error(InvalidTies, at=-1)) for value in NO_SEQUENCES + [[fit] * 3001, (None,) * 3001]]
            for wrong in odd + more:
                ties += [([wrong], error(InvalidTies, at=0)), ((fit, fit, wrong, None), error(InvalidTies, at=2))]
            check_errors(self, call, [3, [(0, 1)]], [no_sizes(), ties])
            self.assertEqual(len(call(3, [fit] * 3000).ties), 3000)
            self.assertEqual(call(1000, [(998, 999)]).points, 1000)
            self.assertEqual(raised(call, 1, [(0, 1)]), error(InvalidTies, at=0))

    def test_accounts_and_courts(self):
        """Whoever knows that all rings are even knows the court by counting."""
        rng = random.Random(101)
        seen = {True: 0, False: 0}
        for _ in range(300):
            points = rng.randint(1, 5)
            pairs = [pair for pair in itertools.permutations(list(range(points)) + [None], 2)]
            web = accounts_web(points, [rng.choice(pairs) for _ in range(rng.randint(0, 9))])
            crowded = any(sum(ends_of(web, tie)[0] in lot for tie in doubles(web)) > len(lot)
                          for lot in lots_by_hand(web))
            self.assertEqual((court1(web), court2(web)), (not crowded, not crowded))
            self.assertIsNotNone(even_turning(web))
            seen[crowded] += 1
        self.assertTrue(min(seen.values()) > 30, seen)


class TurningTest(unittest.TestCase):
    def test_by_hand(self):
        self.assertEqual(even_turning(PIPES), ())
        self.assertEqual(odd_turning(PIPES), (1,))
        self.assertIsNone(even_turning(TRIANGLE))
        self.assertEqual(odd_turning(TRIANGLE), ())
        self.assertEqual((even_turning(Web(2, [(0, 1)])), odd_turning(Web(2, [(0, 1)]))), ((), ()))
        self.assertIsNone(even_turning(MIXED))
        web = Web(5, [(3, 1, 1, 1), (1, 1, 4, -1), (2, 1, 0, 1), (2, -1)])
        self.assertEqual((even_turning(web), odd_turning(web)), ((2, 3), (4,)))

    def test_all_turnings(self):
        seen = {"even": 0, "odd": 0, "neither": 0, "both": 0}
        for web in random_webs(102, 500, 5, 6, 0.1):
            rings = all_rings(web)
            even = all(sign_of(web, ring) == 1 for ring in rings)
            odd = all(sign_of(web, ring) == (-1) ** len(ring) for ring in rings)
            for told, call, kind in ((even, even_turning, "even"), (odd, odd_turning, "odd")):
                lots = turnings_by_hand(web, kind)
                self.assertEqual(len(lots), int(told))
                self.assertEqual(call(web), lots[0] if told else None)
            if rings:
                seen["both" if even and odd else "even" if even else "odd" if odd else "neither"] += 1
        self.assertTrue(min(seen.values()) > 5, seen)

    def test_errors(self):
        check_errors(self, even_turning, [PIPES], [no_webs()])
        check_errors(self, odd_turning, [PIPES], [no_webs()])


class MostTest(unittest.TestCase):
    def test_numbers(self):
        self.assertEqual([most_alike(points) for points in range(1, 9)], [0, 2, 4, 6, 7, 9, 10, 12])
        self.assertEqual([most_plain(points) for points in range(1, 9)], [0, 1, 3, 6, 7, 9, 10, 12])
        self.assertEqual((most_alike(999), most_plain(1000)), (1498, 1500))

    def test_errors(self):
        for call in (most_alike, most_plain, fullest_alike, fullest_plain):
            check_errors(self, call, [3], [no_sizes()])

    def test_all_small_webs(self):
        """Each pair of points has up to two odd ties, or one of either kind: more are never let."""
        for points in range(1, 5):
            pairs = list(itertools.combinations(range(points), 2))
            alike, plain = 0, 0
            for row in itertools.product(range(3), repeat=len(pairs)):
                ties = [(a, 1, b, 1) for (a, b), many in zip(pairs, row) for _ in range(many)]
                if len(ties) > alike and court1(Web(points, ties)):
                    alike = len(ties)
                ties = [(a, 1, b, SIGNS[kind - 1]) for (a, b), kind in zip(pairs, row) if kind]
                if len(ties) > plain and court1(Web(points, ties)):
                    plain = len(ties)
            self.assertEqual((alike, plain), (most_alike(points), most_plain(points)))
        self.assertFalse(court1(Web(2, [(0, 1, 1, 1)] * 3)))

    def test_webs_that_grow(self):
        rng = random.Random(103)
        reached = {}
        for _ in range(150):
            points = rng.randint(2, 7)
            alike, plain = grown(rng, points, [1], 2), grown(rng, points, SIGNS, 1)
            self.assertLessEqual(alike, most_alike(points))
            self.assertLessEqual(plain, most_plain(points))
            reached[points] = reached.get(points, 0) + (alike == most_alike(points)) + (plain == most_plain(points))
        self.assertTrue(all(reached[points] for points in range(2, 6)), reached)

    def test_fullest(self):
        for points in list(range(1, 41)) + [149, 150, 999, 1000]:
            alike, plain = fullest_alike(points), fullest_plain(points)
            for web, most in ((alike, most_alike(points)), (plain, most_plain(points))):
                self.assertEqual((web.points, len(web.ties), len(doubles(web))), (points, most, most))
                self.assertTrue(court1(web))
            self.assertTrue(all(tie[1] == tie[3] for tie in alike.ties))
            self.assertEqual(len({(tie[0], tie[2]) for tie in plain.ties}), len(plain.ties))


if __name__ == "__main__":
    unittest.main()
