"""Webs whose blocks are known, for tests."""

import random

from pushtells.webs import Web, side_by_side

SIGNS = (1, -1)


class Maker:
    """Points and ties that grow, and come out numbered in a mixed order."""

    def __init__(self, rng):
        self.rng = rng
        self.points = 0
        self.ties = []

    def point(self):
        self.points += 1
        return self.points - 1

    def way(self, begin, end, many, sign):
        """A way of so many ties, of this sign."""
        stops = [begin] + [self.point() for _ in range(many - 1)] + [end]
        product = 1
        for at in range(many):
            kind = self.rng.choice(SIGNS) if at < many - 1 else sign * product
            product *= kind
            own = self.rng.choice(SIGNS)
            self.ties.append((stops[at], own, stops[at + 1], -own * kind))

    def odd(self, begin, many):
        self.way(begin, begin, many, -1)

    def even(self, begin, many):
        self.way(begin, begin, many, 1)

    def bead(self, begin, end, one, other):
        self.way(begin, end, one, 1)
        self.way(begin, end, other, -1)

    def chain(self, begin, links):
        """links: 0 for a single tie, (one, other) for a bead with ways of so many ties."""
        stops = [begin] + [self.point() for _ in links[1:]] + [begin]
        for at, link in enumerate(links):
            if link == 0:
                self.way(stops[at], stops[at + 1], 1, self.rng.choice(SIGNS))
            else:
                self.bead(stops[at], stops[at + 1], *link)

    def four(self, begin, lengths):
        """Six ways of these lengths; the four rings round three corners are odd."""
        corners = [begin] + [self.point() for _ in range(3)]
        turns = [self.rng.choice(SIGNS) for _ in corners]
        at = 0
        for one in range(4):
            for other in range(one + 1, 4):
                self.way(corners[one], corners[other], lengths[at], -turns[one] * turns[other])
                at += 1

    def loose(self, many):
        for _ in range(many):
            self.ties.append((self.rng.randrange(self.points), self.rng.choice(SIGNS)))

    def some_point(self):
        return self.rng.randrange(self.points)

    def web(self, mixed=True):
        if not mixed:
            return Web(self.points, self.ties)
        names = list(range(self.points))
        self.rng.shuffle(names)
        ties = [tuple(names[x] if at % 2 == 0 else x for at, x in enumerate(tie)) for tie in self.ties]
        self.rng.shuffle(ties)
        return Web(self.points, [tie[2:] + tie[:2] if self.rng.random() < 0.5 else tie for tie in ties])


def add_core(maker, begin, core):
    """core: ("even", many), ("chain", links), ("four", lengths) or None."""
    if core is not None:
        getattr(maker, core[0])(begin, core[1])


def trusted_component(rng, core, hung, mixed=True, loose=2):
    """A component with this core, odd rings and ties hung on it."""
    maker = Maker(rng)
    maker.point()
    add_core(maker, 0, core)
    for _ in range(hung):
        if rng.random() < 0.5:
            maker.odd(maker.some_point(), rng.randint(2, 4))
        else:
            maker.way(maker.some_point(), maker.point(), 1, rng.choice(SIGNS))
    maker.loose(loose)
    return maker.web(mixed)


CORES = [None, ("even", 2), ("even", 5), ("chain", [0, (1, 1)]), ("chain", [(1, 1), (1, 1)]), ("chain", [(2, 1), 0, 0]),
         ("chain", [(1, 2), (3, 1), 0]), ("chain", [(3, 1), (2, 4)]), ("chain", [(1, 1), (2, 2), (1, 1)]), ("chain", [(1, 1), 0, (2, 1), 0, 0]),
         ("four", [1] * 6), ("four", [2, 1, 1, 3, 1, 2])]


def trusted_webs(seed, hung=3):
    """Of each core a web alone, and webs of two components."""
    rng = random.Random(seed)
    found = [trusted_component(rng, core, hung) for core in CORES]
    return found + [side_by_side(one, other) for one, other in zip(found, found[3:])]


def great_chain(rng, beads):
    """A chain of so many beads, two points and three ties each, as one web of 2 * beads points."""
    maker = Maker(rng)
    maker.point()
    maker.chain(0, [(1, 2)] * beads)
    return maker.web()
