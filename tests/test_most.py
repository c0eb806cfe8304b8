"""[14], [15]: even rings, and webs of most ties."""

import itertools
import random
import unittest

from pushtells.errors import InvalidSize, InvalidWeb, Refused
from pushtells.pieces import court1, even_rings, full_holds, full_paper, most_ties
from pushtells.webs import Web, components, ring_count, struck
from tests.helpers import (JUNK, MIXED, NO_INTEGERS, NO_WEBS, PIPES, TRIANGLE, all_rings, doubles, ends_of, error,
                           points_in, raised, random_webs, sign_of, spoiled, strict)
from tests.webs import CORES, Maker, great_chain, trusted_component


def full_web(rng, points):
    """A full web: a core of doubled ties, doubled ties hung on it, each an even and an odd one."""
    ties = []
    core = rng.choice([at for at in (2, 3, 4) if at <= points])
    pairs = [(at, (at + 1) % core) for at in range(core)]
    pairs += [(at, rng.randrange(at)) for at in range(core, points)]
    names = list(range(points))
    rng.shuffle(names)
    for one, other in pairs:
        for kind in (1, -1):
            own = rng.choice((1, -1))
            ties.append((names[one], own, names[other], -own * kind))
    rng.shuffle(ties)
    more = [(rng.randrange(points), 1) for _ in range(rng.randint(0, 2))]
    return Web(points, more + ties)


def pairs_by_hand(web):
    """All rows of pairs (even tie, odd tie), each between the same points, each tie once."""
    found = []
    evens = [at for at in doubles(web) if sign_of(web, (at,)) == 1]
    odds = [at for at in doubles(web) if sign_of(web, (at,)) == -1]
    if len(evens) == len(odds):
        for order in itertools.permutations(odds):
            pairs = tuple(zip(evens, order))
            if all(ends_of(web, one) == ends_of(web, other) for one, other in pairs):
                found.append(tuple(sorted(pairs)))
    return found


class EvenRingsTest(unittest.TestCase):
    def test_by_hand(self):
        self.assertEqual(even_rings(MIXED), (1, 0, 0, 0))
        self.assertEqual(even_rings(TRIANGLE), (0,))
        self.assertEqual(even_rings(Web(2, [(0, 1, 1, 1)] * 2)), (1,))
        self.assertEqual(even_rings(Web(4, [(a, 1, b, 1) for a in range(4) for b in range(a)])), (3,))
        self.assertEqual(even_rings(Web(2, [])), (0, 0))

    def test_all_rings_of_small_webs(self):
        for web in random_webs(40, 200, 6, 8, 0.1):
            if not court1(web):
                self.assertEqual(raised(even_rings, web), error(Refused, at=-1))
                continue
            told = even_rings(web)
            for lot, many in zip(components(web), told):
                evens = {frozenset(ring) for ring in all_rings(web)
                         if sign_of(web, ring) == 1 and ends_of(web, ring[0])[0] in lot}
                self.assertEqual(len(evens), many)
                for one, other in itertools.combinations(evens, 2):
                    self.assertGreater(len(set(points_in(web, one)) & set(points_in(web, other))), 1)

    def test_cores(self):
        rng = random.Random(41)
        for core in CORES:
            web = trusted_component(rng, core, 4)
            beads = len([link for link in core[1] if link != 0]) if core and core[0] == "chain" else 0
            told = {None: 0, "even": 1, "four": 3, "chain": 2 ** (beads - 1) if beads else 0}
            self.assertEqual(even_rings(web), (told[core and core[0]],))

    def test_many_beads(self):
        self.assertEqual(even_rings(great_chain(random.Random(42), 75)), (2 ** 74,))

    def test_errors(self):
        for web in NO_WEBS:
            self.assertEqual(raised(even_rings, web), error(InvalidWeb, at=-1))
        self.assertEqual(raised(even_rings, PIPES), error(Refused, at=-1))


class MostTest(unittest.TestCase):
    def test_numbers(self):
        self.assertEqual([most_ties(points) for points in (1, 2, 3, 150, 1000)], [0, 4, 6, 300, 2000])
        for points in NO_INTEGERS + [0, -1, 1001, 10 ** 30]:
            self.assertEqual(raised(most_ties, points), error(InvalidSize, word="points"))

    def test_no_web_has_more(self):
        for web in random_webs(43, 300, 3, 7, 0):
            if court1(web):
                self.assertLessEqual(len(doubles(web)), most_ties(web.points))

    def test_full_webs(self):
        rng = random.Random(44)
        for _ in range(60):
            web = full_web(rng, rng.randint(2, 9))
            word, pairs = full_paper(web)
            self.assertEqual((word, len(doubles(web))), ("full", most_ties(web.points)))
            self.assertIs(full_holds(web, (word, pairs)), True)
            self.assertEqual(sorted(sum(pairs, ())), doubles(web))
            self.assertEqual(list(pairs), sorted(pairs))
            less = struck(web, [pairs[0][0]])
            self.assertEqual(full_paper(less), ("less",))
            self.assertIs(full_holds(less, ("less",)), True)
            self.assertIs(full_holds(web, ("less",)), False)

    def test_all_papers_of_small_webs(self):
        rng = random.Random(45)
        for web in [full_web(rng, rng.randint(2, 3)) for _ in range(15)] + random_webs(46, 40, 3, 6, 0):
            held = {strict(("full", pairs)) for pairs in pairs_by_hand(web)}
            if not court1(web) or len(doubles(web)) != most_ties(web.points) or web.points < 2:
                held = {strict(("less",))}
            paper = full_paper(web)
            self.assertIn(strict(paper), held)
            for value in [paper, ("less",), ("full", ())] + list(spoiled(paper)):
                self.assertIs(full_holds(web, value), strict(value) in held, value)

    def test_pairs_may_be_told_in_two_ways(self):
        bow = Web(2, [(0, 1, 1, -1), (0, 1, 1, 1), (0, -1, 1, 1), (0, -1, 1, -1)])
        for pairs, holds in ((((0, 1), (2, 3)), True), (((0, 3), (2, 1)), True), (((2, 3), (0, 1)), False),
                             (((1, 0), (2, 3)), False), (((0, 1), (2, 1)), False), (((0, 1),), False)):
            self.assertIs(full_holds(bow, ("full", pairs)), holds)

    def test_one_of_each_pair_makes_one_ring_a_component(self):
        """It is full exactly if there are pairs, and one of each makes just one ring in each component."""
        seen = {True: 0, False: 0}
        rng = random.Random(47)
        webs = [full_web(rng, rng.randint(2, 4)) for _ in range(20)] + random_webs(48, 30, 2, 4, 0)
        for at, web in enumerate(webs):
            if at % 3 == 0 and web.points > 2:
                pair = [(0, 1, 1, 1), (0, 1, 1, -1)]
                web = Web(web.points, [web.ties[at] for at in doubles(web)][2:] + pair)
            pairs = pairs_by_hand(web)
            counts = [ring_count(Web(web.points, [web.ties[one] for one, _ in each])) for each in pairs[:1]]
            full = bool(counts) and web.points > 1 and set(counts[0]) == {1}
            seen[full] += 1
            self.assertEqual(full_paper(web)[0] == "full", full)
        self.assertTrue(min(seen.values()) > 5, seen)

    def test_pairs_of_unlike_points(self):
        web = Web(3, [(0, 1, 1, -1), (1, 1, 2, 1), (0, 1, 1, 1), (1, 1, 2, -1), (0, 1, 2, 1), (0, 1, 2, -1)])
        self.assertIs(full_holds(web, ("full", ((0, 2), (3, 1), (5, 4)))), True)
        for pairs in (((0, 1), (3, 2), (5, 4)), ((0, 3), (2, 1), (5, 4)), ((0, 4), (3, 1), (5, 2)), ((0, 2), (3, 1))):
            self.assertIs(full_holds(web, ("full", pairs)), False)

    def test_one_point(self):
        self.assertEqual(full_paper(Web(1, [])), ("less",))
        self.assertEqual(full_paper(Web(1, [(0, 1)])), ("less",))
        self.assertIs(full_holds(Web(1, []), ("full", ())), False)

    def test_any_values(self):
        for web in (PIPES, MIXED, full_web(random.Random(49), 4), Web(1, [])):
            for value in JUNK:
                self.assertIs(full_holds(web, value), False)
        for web in NO_WEBS:
            self.assertEqual(raised(full_paper, web), error(InvalidWeb, at=-1))
            self.assertEqual(raised(full_holds, web, None), error(InvalidWeb, at=-1))

    def test_great_webs(self):
        web = full_web(random.Random(50), 150)
        paper = full_paper(web)
        self.assertEqual((paper[0], len(paper[1])), ("full", 150))
        self.assertIs(full_holds(web, paper), True)
        maker = Maker(random.Random(51))
        maker.point()
        maker.chain(0, [(1, 1)] * 150)
        self.assertEqual(full_paper(maker.web())[0], "full")


if __name__ == "__main__":
    unittest.main()
