"""[11], [12], [13]: the first court, its papers, and least bad pieces."""

import itertools
import random
import unittest

from pushtells.blocks import block_paper, blocks
from pushtells.boxes import Box
from pushtells.errors import InvalidWeb
from pushtells.pieces import bad_holds, bad_paper, court1, court1_holds, court1_paper
from pushtells.signs import signs_show
from pushtells.tighten import is_still, tightened
from pushtells.webs import Web, components, side_by_side, struck
from tests.helpers import (JUNK, MIXED, NO_WEBS, PIPES, TRIANGLE, all_signs, doubles, ends_of, error, points_in,
                           random_box, random_webs, raised, spoiled, spoiled_sample, strict)
from tests.papers import bad_papers, bad_pieces, court1_by_hand, kind_by_hand, papers_of, ring_pairs, way_triples
from tests.webs import CORES, Maker, great_chain, trusted_component, trusted_webs


def yes_by_hand(web, value):
    """Whether it is a "yes" paper, by all papers of all blocks."""
    if not (type(value) is tuple and len(value) == 2 and type(value[0]) is str and value[0] == "yes"):
        return False
    if type(value[1]) is not tuple or len(value[1]) != len(components(web)):
        return False
    for lot, row in zip(components(web), value[1]):
        left = [block for block in blocks(web) if ends_of(web, block[0])[0] in lot]
        if type(row) is not tuple or len(row) != len(left):
            return False
        for paper in row:
            fits = [block for block in left if strict(paper) in [strict(told) for told in papers_of(web, block)]]
            if not fits:
                return False
            left.remove(fits[0])
    return court1_by_hand(web)


def handcuffs(way, one=2, other=2, mixed=True, seed=1):
    """Two even rings with a way of so many ties between."""
    maker = Maker(random.Random(seed))
    maker.point()
    end = 0
    maker.even(0, one)
    if way:
        end = maker.point()
        maker.way(0, end, way, 1)
    maker.even(end, other)
    return maker.web(mixed)


class Court1Test(unittest.TestCase):
    def test_the_example(self):
        self.assertEqual((court1(PIPES), court1_paper(PIPES)[:2]), (False, ("no", (0, 1, 2))))
        self.assertIs(court1(Web(2, [(0, 1, 1, -1), (0, 1, 1, -1), (0, 1, 1, 1)])), True)
        four = [(0, 1, 1, 1), (0, 1, 2, 1), (0, 1, 3, 1), (1, 1, 2, 1), (1, 1, 3, 1), (2, 1, 3, 1)]
        self.assertIs(court1(Web(4, four)), True)
        self.assertIn(court1_paper(PIPES)[2], ((1, 1), (-1, -1)))
        self.assertIs(court1(Web(2, [(0, 1, 1, -1)] * 2)), True)

    def test_webs_without_ties_of_two_points(self):
        for web in (Web(1, []), Web(3, [(0, 1), (0, 1), (2, -1)])):
            self.assertIs(court1(web), True)
            self.assertEqual(court1_paper(web), ("yes", ((),) * web.points))
            self.assertIs(court1_holds(web, ("yes", ((),) * web.points)), True)
            self.assertIs(court1_holds(web, ("yes", ((),) * (web.points + 1))), False)
            self.assertIsNone(bad_paper(web))

    def test_the_three_ways_are_one(self):
        told = {True: 0, False: 0}
        for web in random_webs(21, 250, 5, 8, 0.1):
            says = court1(web)
            told[says] += 1
            self.assertEqual(says, not bad_pieces(web))
            self.assertEqual(says, court1_by_hand(web))
        self.assertTrue(min(told.values()) > 60, told)

    def test_all_webs_of_two_points(self):
        for evens, odds in itertools.product(range(5), repeat=2):
            web = Web(2, [(0, 1, 1, -1)] * evens + [(0, -1, 1, -1)] * odds)
            self.assertEqual(court1(web), evens <= 2 and odds <= 2)

    def test_loose_ties_are_nothing_to_it(self):
        for web in random_webs(22, 60, 5, 8, 0.4):
            bare = struck(web, [at for at in range(len(web.ties)) if at not in doubles(web)])
            more = Web(web.points, list(web.ties) + [(0, 1)] * 3)
            self.assertEqual([court1(web)] * 2, [court1(bare), court1(more)])

    def test_made_webs(self):
        for web in trusted_webs(23):
            self.assertIs(court1(web), True)
            paper = court1_paper(web)
            self.assertEqual(paper[0], "yes")
            self.assertIs(court1_holds(web, paper), True)
            mixed = ("yes", tuple(row[::-1] for row in paper[1]))
            self.assertIs(court1_holds(web, mixed), True)
        rng = random.Random(24)
        for one, other in itertools.product(CORES[1:], repeat=2):
            maker = Maker(rng)
            maker.point()
            getattr(maker, one[0])(0, one[1])
            end = maker.point()
            maker.way(0, end, 2, -1)
            getattr(maker, other[0])(end, other[1])
            web = maker.web()
            self.assertIs(court1(web), False)
            self.assertIs(court1_holds(web, court1_paper(web)), True)
            self.assertEqual(bad_paper(web)[0], "rings")
            self.assertIs(bad_holds(web, bad_paper(web)), True)

    def test_wrong_webs(self):
        for web in NO_WEBS:
            for call in (court1, court1_paper, bad_paper):
                self.assertEqual(raised(call, web), error(InvalidWeb, at=-1))
            for call in (court1_holds, bad_holds):
                for value in JUNK:
                    self.assertEqual(raised(call, web, value), error(InvalidWeb, at=-1))


class PapersTest(unittest.TestCase):
    def test_no_papers_of_small_webs(self):
        seen = 0
        for seed, web in enumerate(random_webs(25, 150, 5, 8, 0.1)):
            papers = bad_papers(web, word="no")
            paper = court1_paper(web)
            self.assertEqual(paper[0] == "no", bool(papers))
            held = {strict(each) for each in papers}
            for each in papers[:30]:
                self.assertIs(court1_holds(web, each), True)
            if papers and seen < 25:
                seen += 1
                self.assertIn(strict(paper), held)
                for value in spoiled_sample(paper, seed, 300):
                    self.assertIs(court1_holds(web, value), strict(value) in held, value)

    def test_yes_papers_of_small_webs(self):
        seen = 0
        for seed, web in enumerate(random_webs(26, 150, 5, 6, 0.1) + trusted_webs(27, 1)):
            paper = court1_paper(web)
            if paper[0] == "yes" and len(doubles(web)) < 8 and seen < 60:
                seen += 1
                self.assertTrue(yes_by_hand(web, paper))
                for value in [paper] + spoiled_sample(paper, seed, 120):
                    self.assertIs(court1_holds(web, value), yes_by_hand(web, value), value)

    def test_yes_papers_must_be_of_whole_blocks(self):
        """Ties told one by one where they are a ring, and two odd rings of one block."""
        ring = Web(2, [(0, 1, 1, 1)] * 2)
        self.assertIs(court1_holds(ring, ("yes", ((("tie", 0), ("tie", 1)),))), False)
        self.assertIs(court1_holds(ring, ("yes", ((("even", (0, 1)),),))), True)
        bow = Web(2, [(0, 1, 1, 1), (0, 1, 1, -1)] * 2)
        self.assertIs(court1_holds(bow, ("yes", ((("odd", (0, 1)), ("odd", (2, 3))),))), False)
        self.assertIs(court1_holds(bow, ("yes", ((("odd", (0, 1)), ("odd", (0, 1))),))), False)
        path = Web(3, [(0, 1, 1, 1), (1, 1, 2, 1)])
        self.assertIs(court1_holds(path, ("yes", ((("tie", 1), ("tie", 0)),))), True)
        self.assertIs(court1_holds(path, ("yes", ((("tie", 0),),))), False)
        two = Web(4, [(0, 1, 1, 1), (2, 1, 3, 1)])
        self.assertIs(court1_holds(two, ("yes", ((("tie", 0),), (("tie", 1),)))), True)
        self.assertIs(court1_holds(two, ("yes", ((("tie", 1),), (("tie", 0),)))), False)
        self.assertIs(court1_holds(two, ("yes", [(("tie", 0),), (("tie", 1),)])), False)
        self.assertIs(court1_holds(two, ("yes", ((("tie", 0),), [("tie", 1)]))), False)
        self.assertIs(court1_holds(two, ("yes", ((("tie", False),), (("tie", True),)))), False)

    def test_yes_papers_across_blocks(self):
        """A bead and a tie that only hang on one another are no chain, however many points they have."""
        web = Web(3, [(0, 1, 1, 1), (0, 1, 1, -1), (1, 1, 2, 1)])
        self.assertIs(court1_holds(web, ("yes", ((("odd", (0, 1)), ("tie", 2)),))), True)
        self.assertIs(court1_holds(web, ("yes", ((("chain", (("bead", (0,), (1,)), ("tie", 2))),),))), False)
        self.assertIs(court1_holds(web, ("yes", ((("chain", (("tie", 2), ("bead", (0,), (1,)))),),))), False)
        self.assertIs(court1_holds(web, ("yes", ((("odd", (0, 1)), ("tie", 2), ("tie", 2)),))), False)

    def test_two_cores_are_no_yes(self):
        web = handcuffs(0)
        papers = tuple(block_paper(web, block) for block in blocks(web))
        self.assertEqual([paper[0] for paper in papers], ["even", "even"])
        self.assertIs(court1_holds(web, ("yes", (papers,))), False)

    def test_no_papers_need_more_ties_than_points_that_hang_together(self):
        web = side_by_side(PIPES, Web(2, [(0, 1, 1, -1)] * 3))
        self.assertIs(court1_holds(web, ("no", (0, 1, 2), (1, 1, 0, 0))), True)
        self.assertIs(court1_holds(web, ("no", (3, 4, 5), (0, 0, -1, -1))), True)
        self.assertIs(court1_holds(web, ("no", (0, 1, 2, 3, 4, 5), (1, 1, 1, 1))), False)
        self.assertIs(court1_holds(web, ("no", (0, 1), (1, 1, 0, 0))), False)
        self.assertIs(court1_holds(web, ("no", (0, 2, 1), (1, 1, 0, 0))), False)
        self.assertIs(court1_holds(web, ("no", (0, 1, 2), (1, 1, 1, 0))), False)
        self.assertIs(court1_holds(web, ("no", (0, 1, 2), (1, -1, 0, 0))), False)
        self.assertIs(court1_holds(web, ("no", (0, 1, 2), [1, 1, 0, 0])), False)

    def test_any_values(self):
        for web in trusted_webs(28) + [PIPES, MIXED, TRIANGLE]:
            for value in JUNK:
                bare = strict(value) == "('yes', ((),))" and web.points == 1
                self.assertIs(court1_holds(web, value), bare)
                self.assertIs(bad_holds(web, value), value is None and court1(web))


class BadTest(unittest.TestCase):
    def test_papers_of_small_webs(self):
        seen = {"ways": 0, "rings": 0}
        for seed, web in enumerate(random_webs(29, 250, 5, 7, 0.05)):
            paper = bad_paper(web)
            self.assertEqual(paper is None, court1(web))
            self.assertIs(bad_holds(web, paper), True)
            self.assertIs(bad_holds(web, None), paper is None)
            if paper is None or seen[paper[0]] > 15:
                continue
            seen[paper[0]] += 1
            all_papers = way_triples(web) + ring_pairs(web)
            held = {strict(each) for each in all_papers}
            self.assertIn(strict(paper), held)
            for each in all_papers[:40]:
                self.assertIs(bad_holds(web, each), True)
            for value in spoiled_sample(paper, seed, 200):
                self.assertIs(bad_holds(web, value), strict(value) in held, (web.ties, value))
        self.assertTrue(min(seen.values()) > 5, seen)

    def test_least(self):
        for web in random_webs(30, 200, 6, 10, 0.05):
            paper = bad_paper(web)
            if paper is not None:
                rows = paper[1] if paper[0] == "ways" else paper[1:]
                ties = tuple(sorted(sum(rows, ())))
                self.assertEqual(len(ties), len(points_in(web, ties)) + 1)
                self.assertEqual(list(bad_pieces(web, ties)), [ties])

    def test_each_bad_piece_has_one_within(self):
        for web in random_webs(31, 60, 4, 6, 0):
            told = [tuple(sorted(sum(each[1], ()))) for each in way_triples(web)]
            told += [tuple(sorted(sum(each[1:], ()))) for each in ring_pairs(web)]
            for piece in bad_pieces(web):
                self.assertTrue(any(set(least) <= set(piece) for least in told))

    def test_rings_with_ways_of_all_lengths(self):
        for way, one, other in itertools.product((0, 1, 2, 4), (2, 3), (2, 4)):
            web = handcuffs(way, one, other)
            paper = bad_paper(web)
            self.assertEqual((paper[0], len(paper[3])), ("rings", way))
            self.assertIs(bad_holds(web, paper), True)
            turned_about = ("rings", paper[2], paper[1], paper[3][::-1])
            self.assertIs(bad_holds(web, turned_about), True)
            wrong_way = ("rings", paper[1], paper[2], paper[3][::-1])
            self.assertIs(bad_holds(web, wrong_way), way < 2)
            self.assertIs(bad_holds(web, ("rings", paper[1][1:] + paper[1][:1], paper[2][::-1], paper[3])), True)
            self.assertIs(bad_holds(web, ("rings", paper[1], paper[1], ())), False)
            self.assertIs(bad_holds(web, ("rings", paper[1], paper[2], list(paper[3]))), False)

    def test_ways_from_the_lesser_point(self):
        web = Web(4, [(1, 1, 2, -1), (2, 1, 3, -1), (1, 1, 3, -1), (1, 1, 0, -1), (0, 1, 3, -1)])
        ways = ((0, 1), (2,), (3, 4))
        for row in itertools.permutations(ways):
            self.assertIs(bad_holds(web, ("ways", row)), True)
        for at in range(3):
            row = tuple(way[::-1] if place == at else way for place, way in enumerate(ways))
            self.assertIs(bad_holds(web, ("ways", row)), at == 1)
        self.assertIs(bad_holds(web, ("ways", ways + ((2,),))), False)
        self.assertIs(bad_holds(web, ("ways", ((2,), (2,), (0, 1)))), False)
        self.assertIs(bad_holds(web, ("ways", list(ways))), False)

    def test_ways_that_are_not_apart(self):
        web = Web(4, [(0, 1, 3, -1), (3, 1, 1, -1), (0, 1, 3, -1), (3, 1, 1, -1), (0, 1, 1, -1), (0, 1, 2, -1),
                      (2, 1, 1, -1)])
        for ways, holds in ((((0, 1), (4,), (5, 6)), True), (((2, 1), (4,), (5, 6)), True),
                            (((0, 1), (2, 3), (4,)), False), (((0, 1), (2, 1), (4,)), False),
                            (((4,), (4,), (0, 1)), False), (((0,), (2,), (4,)), False), (((0,), (2,), (5, 6)), False),
                            (((5,), (4,), (0, 1)), False), (((0, 1), (5, 6)), False)):
            self.assertIs(bad_holds(web, ("ways", ways)), holds, ways)
        long = Web(5, [(0, 1, 2, -1), (2, 1, 1, -1), (0, 1, 3, -1), (3, 1, 1, -1), (0, 1, 4, -1), (4, 1, 1, -1)])
        ways = ((0, 1), (2, 3), (4, 5))
        self.assertIs(bad_holds(long, ("ways", ways)), True)
        self.assertIs(bad_holds(long, ("ways", tuple(way[::-1] for way in ways))), False)
        shared = Web(6, [(0, 1, 2, -1), (2, 1, 3, -1), (3, 1, 1, -1), (0, 1, 4, -1), (4, 1, 3, -1), (3, 1, 1, -1),
                         (0, 1, 5, -1), (5, 1, 2, -1), (2, 1, 1, -1), (0, 1, 1, -1)])
        for ways in (((0, 1, 2), (3, 4, 5), (9,)), ((0, 1, 2), (6, 7, 8), (9,))):
            self.assertIs(bad_holds(shared, ("ways", ways)), False)

    def test_ways_between_rings(self):
        ties = [(0, 1, 1, -1), (1, 1, 2, -1), (2, 1, 0, -1), (3, 1, 4, -1), (4, 1, 5, -1), (5, 1, 3, -1)]
        web = Web(8, ties + [(0, 1, 1, -1), (1, 1, 6, -1), (6, 1, 3, -1), (3, 1, 4, -1), (6, 1, 7, 1), (0, 1, 3, 1),
                             (0, 1, 7, 1)])
        one, other = (0, 1, 2), (3, 4, 5)
        for way, holds in (((7, 8), True), ((8, 7), False), ((11,), True), ((6, 7, 8), False), ((7, 8, 9), False),
                           ((7,), False), ((7, 10), False), ((8,), False), ((), False), ((10, 8), False),
                           ((12, 10, 8), True), ((12, 10), False), ((2, 7, 8), False), ((0,), False), ((3,), False),
                           ((10,), False), ((7, 8, 3), False)):
            self.assertIs(bad_holds(web, ("rings", one, other, way)), holds, way)
            self.assertIs(bad_holds(web, ("rings", other, one, way[::-1])), holds, way)

    def test_rings_with_common_points(self):
        touching = Web(3, [(0, 1, 1, -1), (0, 1, 1, -1), (1, 1, 2, -1), (1, 1, 2, -1), (0, 1, 2, 1)])
        for way, holds in (((), True), ((4,), False), ((0,), False)):
            self.assertIs(bad_holds(touching, ("rings", (0, 1), (2, 3), way)), holds)
        two = Web(2, [(0, 1, 1, -1)] * 4)
        self.assertIs(bad_holds(two, ("rings", (0, 1), (2, 3), ())), False)
        self.assertIs(bad_holds(two, ("rings", (0, 1), (1, 2), ())), False)
        odd = Web(3, [(0, 1, 1, -1), (0, 1, 1, 1), (1, 1, 2, -1), (1, 1, 2, -1)])
        self.assertIs(bad_holds(odd, ("rings", (0, 1), (2, 3), ())), False)

    def test_bad_blocks(self):
        for seed, web in enumerate(random_webs(32, 150, 5, 9, 0)):
            for block in blocks(web):
                if kind_by_hand(web, block) == "bad" and len(block) < 8:
                    word, ties, signs = block_paper(web, block)
                    self.assertEqual(word, "bad")
                    self.assertLessEqual(set(ties), set(block))
                    self.assertIs(court1_holds(web, ("no", ties, signs)), True)


class TheoremTest(unittest.TestCase):
    def test_still_boxes_of_trusted_webs_have_fillings(self):
        """No signs show a still box: something fills it."""
        rng = random.Random(33)
        still = 0
        for web in random_webs(34, 400, 4, 6, 0.2):
            if court1(web):
                end = tightened(web, random_box(rng, web, 3))
                if end is not None and end.bounds:
                    still += 1
                    self.assertFalse(any(signs_show(web, end, signs) for signs in all_signs(web)))
        self.assertGreater(still, 20)

    def test_bad_pieces_have_still_boxes_that_nothing_fills(self):
        for web in random_webs(35, 150, 6, 10, 0.1) + [handcuffs(2, 3, 2), PIPES]:
            paper = bad_paper(web)
            if paper is None:
                continue
            rows = paper[1] if paper[0] == "ways" else paper[1:]
            ties = sum(rows, ())
            signs = bad_pieces(web, sorted(ties))[tuple(sorted(ties))][0]
            bounds = [(0, 2) if at in ties else (0, 0) for at in range(len(web.ties))]
            totals = []
            for point in range(web.points):
                own = [web.ties[at][1] if web.ties[at][0] == point else web.ties[at][3]
                       for at in ties if point in ends_of(web, at)]
                totals.append(sum(own) + signs[point] * (len(own) - 2))
            box = Box(web, bounds, totals)
            self.assertIs(is_still(web, box), True)
            self.assertIs(signs_show(web, box, signs), True)


class GreatTest(unittest.TestCase):
    def test_great_webs(self):
        rng = random.Random(36)
        for many, loose in ((360, 0), (300, 0.3), (200, 0), (160, 0.1)):
            told = []
            for _ in range(many):
                one, other = rng.sample(range(150), 2)
                told.append((one, 1) if rng.random() < loose else (one, rng.choice((1, -1)), other, 1))
            web = Web(150, told)
            self.assertIs(court1_holds(web, court1_paper(web)), True)
            self.assertIs(bad_holds(web, bad_paper(web)), True)

    def test_a_great_chain_with_one_tie_more(self):
        web = great_chain(random.Random(37), 75)
        self.assertEqual((web.points, len(web.ties)), (150, 225))
        self.assertIs(court1_holds(web, court1_paper(web)), True)
        for one, other in ((0, 75), (10, 11), (3, 149)):
            more = Web(150, list(web.ties) + [(one, 1, other, 1), (one, 1, other, -1)])
            if not court1(more):
                self.assertIs(court1_holds(more, court1_paper(more)), True)
                self.assertIs(bad_holds(more, bad_paper(more)), True)
        self.assertFalse(court1(Web(150, list(web.ties) + [(0, 1, 75, 1), (0, 1, 75, -1)])))

    def test_a_long_ring_with_a_way_across(self):
        ring = [(at, 1, (at + 1) % 150, -1) for at in range(150)]
        web = Web(150, ring + [(0, 1, 75, -1)])
        self.assertIs(court1(web), False)
        self.assertEqual(bad_paper(web)[0], "ways")
        self.assertIs(bad_holds(web, bad_paper(web)), True)
        self.assertIs(court1(Web(150, ring + [(0, 1, 75, 1)])), True)

    def test_hung_components(self):
        web = trusted_component(random.Random(38), ("four", [3] * 6), 30)
        self.assertIs(court1_holds(web, court1_paper(web)), True)
        self.assertIs(court1_holds(web, ("yes", (court1_paper(web)[1][0][::-1],))), True)
        self.assertFalse(any(court1_holds(web, value) for value in spoiled(("yes", ()))))


if __name__ == "__main__":
    unittest.main()
