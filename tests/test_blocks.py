"""[9], [10]: blocks, their kinds and papers."""

import random
import unittest

from pushtells.blocks import block_holds, block_kind, block_paper, blocks
from pushtells.errors import InvalidBlock, InvalidWeb
from pushtells.webs import Web, components, row_sign
from tests.helpers import (JUNK, MIXED, NO_SEQUENCES, NO_WEBS, PIPES, TRIANGLE, all_rings, doubles, ends_of, error,
                           points_in, raised, random_webs, sign_of, spoiled, spoiled_sample, strict)
from tests.papers import bad_papers, blocks_by_hand, kind_by_hand, papers_of
from tests.webs import CORES, Maker, great_chain, trusted_component, trusted_webs


class BlocksTest(unittest.TestCase):
    def test_by_hand(self):
        self.assertEqual(blocks(MIXED), ((0, 2), (3, 5, 6)))
        self.assertEqual(blocks(Web(1, [(0, 1)])), ())
        self.assertEqual(blocks(Web(3, [(0, 1, 1, 1), (1, 1), (1, 1, 2, 1)])), ((0,), (2,)))
        self.assertEqual(blocks(Web(2, [(0, 1, 1, 1)] * 2)), ((0, 1),))
        for web in NO_WEBS:
            self.assertEqual(raised(blocks, web), error(InvalidWeb, at=-1))

    def test_blocks_of_small_webs(self):
        for web in random_webs(14, 150, 6, 8):
            found = blocks(web)
            self.assertEqual(found, blocks_by_hand(web))
            self.assertEqual(sorted(sum(found, ())), doubles(web))
            for ring in all_rings(web):
                self.assertEqual(len([block for block in found if set(ring) & set(block)]), 1)
            for at, block in enumerate(found):
                for other in found[:at]:
                    self.assertLess(len(set(points_in(web, block)) & set(points_in(web, other))), 2)
            for lot in components(web):
                inside = [block for block in found if ends_of(web, block[0])[0] in lot]
                self.assertEqual(sum(len(points_in(web, block)) - 1 for block in inside), len(lot) - 1)

    def test_wrong_blocks(self):
        calls = (lambda block: block_kind(MIXED, block), lambda block: block_paper(MIXED, block),
                 lambda block: block_holds(MIXED, block, None))
        for call in calls:
            for block in NO_SEQUENCES + JUNK + [(0,), (2,), (0, 2, 2), (0, 0), (0, 2, 3), (0, True), (0, 2, None),
                                                (3, 5), (1,), (4,), (1, 4), (0, 2, 8), (-8, 2), (3, 5, 6, 6)]:
                self.assertEqual(raised(call, block), error(InvalidBlock, at=-1))
        for web in NO_WEBS:
            self.assertEqual(raised(block_kind, web, None), error(InvalidWeb, at=-1))
            self.assertEqual(raised(block_paper, web, None), error(InvalidWeb, at=-1))
            self.assertEqual(raised(block_holds, web, None, None), error(InvalidWeb, at=-1))

    def test_blocks_in_any_order(self):
        for block in ((6, 3, 5), [5, 6, 3], [3, 5, 6]):
            self.assertEqual(block_kind(MIXED, block), "odd")
            self.assertEqual(block_paper(MIXED, block)[0], "odd")
            self.assertIs(block_holds(MIXED, block, ("odd", (3, 5, 6))), True)


class KindsTest(unittest.TestCase):
    def test_each_kind_by_hand(self):
        cases = [(Web(2, [(0, 1, 1, 1)]), "tie"), (TRIANGLE, "odd"), (Web(2, [(0, 1, 1, 1)] * 2), "even"),
                 (PIPES, "bad"), (Web(2, [(0, 1, 1, 1), (0, 1, 1, 1), (0, 1, 1, -1)]), "chain"),
                 (Web(2, [(0, 1, 1, 1), (0, 1, 1, 1), (0, 1, 1, -1), (0, 1, 1, -1)]), "chain"),
                 (Web(2, [(0, 1, 1, 1)] * 3 + [(0, 1, 1, -1)]), "bad"),
                 (Web(4, [(a, 1, b, 1) for a in range(4) for b in range(a)]), "four"),
                 (Web(4, [(a, 1, b, -1) for a in range(4) for b in range(a)]), "bad"),
                 (Web(5, [(a, 1, b, 1) for a in range(5) for b in range(a)]), "bad")]
        for web, kind in cases:
            block = blocks(web)[0]
            self.assertEqual(block_kind(web, block), kind)
            self.assertEqual(block_paper(web, block)[0], kind)

    def test_kinds_of_made_webs(self):
        rng = random.Random(15)
        for core in CORES[1:]:
            for _ in range(10):
                web = trusted_component(rng, core, 3)
                kinds = sorted(block_kind(web, block) for block in blocks(web))
                self.assertEqual([kind for kind in kinds if kind not in ("tie", "odd")], [core[0]])

    def check_block(self, web, block, seed):
        papers = papers_of(web, block) or bad_papers(web, block)
        kind = kind_by_hand(web, block)
        self.assertEqual(block_kind(web, block), kind)
        told = {strict(paper) for paper in papers}
        own = block_paper(web, block)
        self.assertIn(strict(own), told)
        for paper in papers[:40]:
            self.assertIs(block_holds(web, block, paper), True, paper)
        for paper in [own] + random.Random(seed).sample(papers, min(3, len(papers))):
            for value in spoiled_sample(paper, seed, 150):
                self.assertIs(block_holds(web, block, value), strict(value) in told, (web.ties, value))
        if kind != "bad":
            self.assertEqual(bad_papers(web, block), [])

    def test_all_papers_of_small_webs(self):
        kinds = {}
        for seed, web in enumerate(random_webs(16, 220, 5, 7, 0.05)):
            for block in blocks(web):
                kind = block_kind(web, block)
                kinds[kind] = kinds.get(kind, 0) + 1
                if kinds[kind] < 25:
                    self.check_block(web, block, seed)
        self.assertEqual(sorted(kinds), ["bad", "chain", "even", "odd", "tie"])

    def test_all_papers_of_made_webs(self):
        for seed, web in enumerate(trusted_webs(17, 1)[:len(CORES)]):
            for block in blocks(web):
                if len(block) < 8:
                    self.check_block(web, block, seed)

    def test_all_papers_of_fours(self):
        for seed, lengths in enumerate(([1] * 6, [1, 1, 2, 1, 1, 1], [2, 1, 1, 1, 1, 2])):
            maker = Maker(random.Random(seed))
            maker.point()
            maker.four(0, lengths)
            web = maker.web()
            self.check_block(web, blocks(web)[0], seed)

    def test_papers_begun_elsewhere(self):
        web = Web(4, [(0, 1, 1, 1), (0, 1, 1, -1), (1, 1, 2, 1), (2, 1, 3, 1), (3, 1, 0, 1)])
        block = (0, 1, 2, 3, 4)
        links = [("bead", (0,), (1,)), ("tie", 2), ("tie", 3), ("tie", 4)]
        for at in range(4):
            row = links[at:] + links[:at]
            self.assertIs(block_holds(web, block, ("chain", tuple(row))), True)
            self.assertIs(block_holds(web, block, ("chain", tuple(row[::-1]))), True)
        self.assertIs(block_holds(web, block, ("chain", (("bead", (1,), (0,)),) + tuple(links[1:]))), True)
        self.assertIs(block_holds(web, block, ("chain", tuple(links[1:]))), False)
        self.assertIs(block_holds(web, block, ("chain", tuple(links[::-1][:3]))), False)
        self.assertIs(block_holds(web, block, ("chain", (links[0], links[2], links[1], links[3]))), False)
        self.assertIs(block_holds(web, block, ("chain", list(links))), False)
        self.assertIs(block_holds(web, block, ("chain", (("bead", [0], (1,)),) + tuple(links[1:]))), False)
        other = ("chain", (("bead", (0, 2), (1, 2)), ("tie", 3), ("tie", 4)))
        self.assertIs(block_holds(web, block, other), False)

    def test_beads_told_from_the_end_of_the_way(self):
        web = Web(4, [(0, 1, 2, 1), (2, 1, 1, 1), (0, 1, 1, 1), (1, 1, 3, 1), (3, 1, 0, 1)])
        block = (0, 1, 2, 3, 4)
        for way, holds in (((0, 1), True), ((1, 0), False)):
            links = (("bead", way, (2,)), ("tie", 3), ("tie", 4))
            self.assertIs(block_holds(web, block, ("chain", links)), holds)
            links = (("tie", 4), ("tie", 3), ("bead", way[::-1], (2,)))
            self.assertIs(block_holds(web, block, ("chain", links)), holds)

    def test_chains_need_a_bead(self):
        self.assertIs(block_holds(TRIANGLE, (0, 1, 2), ("chain", (("tie", 0), ("tie", 1), ("tie", 2)))), False)
        two = Web(2, [(0, 1, 1, 1)] * 2)
        self.assertIs(block_holds(two, (0, 1), ("chain", (("tie", 0), ("tie", 1)))), False)
        bow = Web(2, [(0, 1, 1, 1), (0, 1, 1, -1)])
        self.assertIs(block_holds(bow, (0, 1), ("chain", (("bead", (0,), (1,)),))), False)

    def check_false(self, web, paper):
        """A paper of all ties of a web that is one block, but no such paper."""
        block = tuple(range(len(web.ties)))
        self.assertEqual(blocks(web), (block,))
        self.assertNotIn(strict(paper), [strict(told) for told in papers_of(web, block)])
        self.assertIs(block_holds(web, block, paper), False)

    def test_even_beads(self):
        web = Web(2, [(0, 1, 1, 1), (0, 1, 1, 1), (0, 1, 1, -1)])
        self.check_false(web, ("chain", (("bead", (0,), (1,)), ("tie", 2))))
        self.check_false(PIPES, ("chain", (("bead", (0,), (1,)), ("tie", 2))))

    def test_ways_of_a_bead_to_two_points(self):
        web = Web(3, [(0, 1, 1, -1), (0, 1, 2, 1), (1, 1, 2, 1), (2, 1, 0, -1)])
        self.check_false(web, ("chain", (("bead", (0,), (1,)), ("tie", 2), ("tie", 3))))

    def test_chains_through_a_point_twice(self):
        five = Web(2, [(0, 1, 1, 1), (0, 1, 1, -1)] * 2 + [(0, 1, 1, 1)])
        links = (("bead", (0,), (1,)), ("tie", 2), ("tie", 3), ("tie", 4))
        self.check_false(five, ("chain", links))
        shared = Web(3, [(0, 1, 1, -1), (1, 1, 2, -1), (0, 1, 1, 1), (1, 1, 2, -1), (2, 1, 0, 1)])
        self.check_false(shared, ("chain", (("bead", (0, 1), (2, 3)), ("tie", 4))))
        self.check_false(shared, ("chain", (("bead", (2, 1), (0, 3)), ("tie", 4))))
        longer = Web(5, [(0, 1, 1, -1), (1, 1, 2, -1), (2, 1, 3, -1), (0, 1, 4, 1), (4, 1, 2, 1), (2, 1, 3, 1),
                         (3, 1, 0, 1)])
        self.check_false(longer, ("chain", (("bead", (0, 1, 2), (3, 4, 5)), ("tie", 6))))

    def test_chains_that_do_not_close(self):
        web = Web(2, [(0, 1, 1, 1), (0, 1, 1, -1), (0, 1, 1, 1)])
        self.assertIs(block_holds(web, (0, 1, 2), ("chain", (("bead", (0,), (1,)), ("tie", 2)))), True)
        self.assertIs(block_holds(web, (0, 1, 2), ("chain", (("bead", (0,), (1,)), ("tie", 0)))), False)

    def test_false_fours(self):
        pairs = [(a, b) for a in range(4) for b in range(a + 1, 4)]
        even = Web(4, [(a, 1, b, -1) for a, b in pairs])
        self.check_false(even, ("four", (0, 1, 2, 3), tuple((at,) for at in range(6))))
        crossing = Web(5, [(0, 1, 4, 1), (4, 1, 1, -1), (0, 1, 2, 1), (0, 1, 3, 1), (1, 1, 2, 1), (1, 1, 3, 1),
                           (2, 1, 4, 1), (4, 1, 3, -1)])
        ways = ((0, 1), (2,), (3,), (4,), (5,), (6, 7))
        self.check_false(crossing, ("four", (0, 1, 2, 3), ways))
        doubled = Web(4, [(a, 1, b, 1) for a, b in pairs + [(0, 1)]])
        self.assertEqual(block_kind(doubled, range_list(7)), "bad")
        self.check_false(doubled, ("four", (0, 1, 2, 3), tuple((at,) for at in range(6))))

    def test_bad_papers_of_another_block(self):
        web = Web(4, [(0, 1, 1, -1)] * 3 + [(2, 1, 3, -1)] * 3)
        for block, ties, signs in (((0, 1, 2), (0, 1, 2), (1, 1, 0, 0)), ((3, 4, 5), (3, 4, 5), (0, 0, 1, 1))):
            self.assertIs(block_holds(web, block, ("bad", ties, signs)), True)
            self.assertIs(block_holds(web, block, ("bad", ties, tuple(-sign for sign in signs))), True)
        self.assertIs(block_holds(web, (0, 1, 2), ("bad", (3, 4, 5), (0, 0, 1, 1))), False)

    def test_any_values(self):
        for web in trusted_webs(18) + [PIPES, MIXED]:
            for block in blocks(web):
                for value in JUNK:
                    self.assertIs(block_holds(web, block, value), False)

    def test_a_block_with_an_even_ring(self):
        for web in random_webs(19, 80, 5, 7, 0):
            for block in blocks(web):
                evens = [ring for ring in all_rings(web, block) if sign_of(web, ring) == 1]
                self.assertEqual(bool(evens), block_kind(web, block) not in ("tie", "odd"))

    def test_great_blocks(self):
        web = great_chain(random.Random(20), 50)
        block = blocks(web)[0]
        self.assertEqual(len(block), 150)
        paper = block_paper(web, block)
        self.assertEqual((paper[0], len(paper[1])), ("chain", 50))
        self.assertIs(block_holds(web, block, paper), True)
        rows = [ring for link in paper[1] for ring in [link[1] + link[2][::-1]]]
        self.assertEqual({row_sign(web, row) for row in rows}, {-1})
        ring = Web(1000, [(at, 1, (at + 1) % 1000, -1) for at in range(1000)])
        paper = block_paper(ring, tuple(range(1000)))
        self.assertEqual(paper[0], "even")
        self.assertIs(block_holds(ring, range_list(1000), paper), True)
        self.assertIs(block_holds(ring, range_list(1000), ("even", paper[1][7:] + paper[1][:7])), True)
        near = list(spoiled(("even", paper[1][:2])))
        self.assertFalse(any(block_holds(ring, range_list(1000), value) for value in near))


def range_list(many):
    return list(range(many))


if __name__ == "__main__":
    unittest.main()
