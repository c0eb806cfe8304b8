"""[66] to [68]: webs of numbered points, counted and numbered."""

import itertools
import math
import random
import unittest
from fractions import Fraction

from pushtells.blocks import block_kind, blocks
from pushtells.counts import nth_web, web_count, web_number
from pushtells.courts import court2, court3
from pushtells.errors import InvalidIndex, InvalidKind, InvalidSize, InvalidWeb, Refused
from pushtells.pieces import court1
from pushtells.webs import Web
from tests.helpers import JUNK, NO_INTEGERS, check_errors, error, lots_by_hand, no_webs, raised

KINDS = ("accounts", "alike", "signed")
COURTS = {1: court1, 2: court2, 3: court3}
STATES = {"accounts": ((), (-1,)), "alike": ((), (1,)), "signed": ((), (-1,), (1,), (-1, 1))}


def all_webs(kind, court, points):
    """All webs of a kind that have the court's yes, ties as they are told."""
    pairs = list(itertools.combinations(range(points), 2))
    found = []
    for states in itertools.product(STATES[kind], repeat=len(pairs)):
        ties = [(a, 1, b, sign) for (a, b), signs in zip(pairs, states) for sign in signs]
        if not COURTS[court](Web(points, ties)):
            continue
        for many in range(points + 1 if court == 3 else 1):
            for ends in itertools.combinations(range(points), many):
                web = Web(points, ties + [(point, 1) for point in ends])
                if many == 0 or court3(web):
                    found.append(web)
    return found


def order_key(web):
    """By what the webs are ordered, part by part."""
    left = list(range(web.points))
    key = []
    while left:
        lot = [lot for lot in lots_by_hand(web) if left[0] in lot][0]
        key.append(component_key(web, lot, [left.index(point) for point in lot[1:]]))
        left = [point for point in left if point not in lot]
    return key


def component_key(web, lot, places):
    ties = [tie for tie in web.ties if tie[0] in lot]
    pairs = {(lot.index(tie[0]), lot.index(tie[2])): int(tie[3] == 1) for tie in ties if len(tie) == 4}
    loose = [lot.index(tie[0]) for tie in ties if len(tie) == 2]
    free = dict(pairs)
    if len(pairs) < len(lot):
        shape = (0, struck_by_hand(set(pairs), len(lot), (), 2))
    else:
        ring = ring_by_hand(set(pairs))
        free.pop(max(pair for pair in pairs if set(pair) <= set(ring) and beside_each_other(ring, pair)))
        shape = (1, len(ring), sorted(ring), ring, struck_by_hand(set(pairs), len(lot), ring, len(ring)))
    signs = [free[pair] for pair in sorted(free)]
    return len(lot), places, shape, signs, [int(at in loose) for at in range(len(lot))]


def beside_each_other(ring, pair):
    return abs(ring.index(pair[0]) - ring.index(pair[1])) in (1, len(ring) - 1)


def ring_by_hand(pairs):
    """The ring from its least point on, to the lesser of its neighbours."""
    while True:
        ends = [x for pair in pairs for x in pair]
        single = [pair for pair in pairs if ends.count(pair[0]) == 1 or ends.count(pair[1]) == 1]
        if not single:
            break
        pairs = pairs - set(single)
    row = [min(x for pair in pairs for x in pair)]
    while True:
        near = sorted(sum(pair) - row[-1] for pair in pairs if row[-1] in pair)
        onward = [x for x in near if x not in row]
        if not onward:
            return row
        row.append(onward[0])


def struck_by_hand(pairs, points, kept, stop):
    """The neighbours of the least points with one tie, struck again and again, till so many points are left."""
    left, row = set(range(points)), []
    while len(left) > stop:
        ends = [x for pair in pairs for x in pair]
        point = min(x for x in left if x not in kept and ends.count(x) == 1)
        pair = [pair for pair in pairs if point in pair][0]
        row.append(sum(pair) - point)
        pairs = pairs - {pair}
        left.discard(point)
    return row


# Series as lists of fractions, by another way than the package's.

def product(one, other, size):
    return [sum(one[i] * other[n - i] for i in range(n + 1)) for n in range(size)]


def composed(outer, inner, size):
    """outer(inner), inner without a number of its own."""
    total, power = [Fraction(0)] * size, [Fraction(1)] + [Fraction(0)] * (size - 1)
    for factor in outer[:size]:
        total = [a + factor * b for a, b in zip(total, power)]
        power = product(power, inner, size)
    return total


def hung(blocks, size):
    """T = u exp(b(T)): a point with all that hangs on it by blocks, found by going round."""
    exp = [Fraction(1, math.factorial(n)) for n in range(size)]
    told = [Fraction(0)] * size
    for _ in range(size):
        inner = composed(exp, composed(blocks, told, size), size)
        told = [Fraction(0)] + inner[:-1]
    return told


def all_by_singles(singles, points):
    """Webs out of those of one component, by the exponential."""
    size = points + 1
    inner = [Fraction(0)] + [Fraction(singles[n], math.factorial(n)) for n in range(1, size)]
    return composed([Fraction(1, math.factorial(n)) for n in range(size)], inner, size)[points] * math.factorial(points)


def counted(kind, court, points):
    """How many webs there are, by blocks hung on points."""
    size = points + 1
    signed = kind == "signed"
    if court == 1 and kind != "accounts":
        blocks, cores = odd_blocks(signed, size), all_cores(signed, size)
    else:
        blocks = [Fraction(0), Fraction(2 if signed else 1)] + [Fraction(0)] * size
        cores = [Fraction(0)] * 3 + [Fraction(2 ** (n - 1) if signed else 1, 2 * n) for n in range(3, size)]
        if kind == "alike":
            cores = [value if n % 2 == 0 else Fraction(0) for n, value in enumerate(cores)]
        # A sign for each tie, but for the last one of the ring: each tie off it doubles.
    told = hung(blocks[:size] + [Fraction(0)] * (size - len(blocks)), size)
    rings = composed(cores, told, size)
    singles = [0] + [told[n] * math.factorial(n) / n * (2 ** n if court == 3 else 1) + rings[n] * math.factorial(n)
                     for n in range(1, size)]
    return all_by_singles(singles, points)


def odd_blocks(signed, size):
    """Ties and odd rings at a point, by their other points: a ring of L goes through it in (L - 1)! / 2 ways."""
    found = [Fraction(0)] * (size + 2)
    found[1] = Fraction(2 if signed else 1)
    for length in range(2, size + 1):
        ways = Fraction(1, 2) if length > 2 else Fraction(1)
        if signed:
            # Of two points one even tie and one odd one.
            found[length - 1] += ways * 2 ** (length - 1) if length > 2 else 1
        elif length % 2 == 1:
            found[length - 1] += ways
    return found


def way_numbers(signed, size):
    """{sign: how many ways of this sign there are by their inner points, in a row}."""
    if signed:
        return {sign: [2 ** n for n in range(size)] for sign in (1, -1)}
    return {1: [n % 2 for n in range(size)], -1: [1 - n % 2 for n in range(size)]}


def joint(rows, size):
    """How many choices of one of each row, by their inner points together."""
    total = [1] + [0] * (size - 1)
    for row in rows:
        total = product(total, row, size)
    return total


def core_number(signed, points):
    """How many cores have just these points: rings, ways between two points, chains, fours."""
    size = points + 1
    ways = way_numbers(signed, size)
    found = Fraction(0)
    if points > 2 and (signed or points % 2 == 0):
        found += Fraction(math.factorial(points - 1) * (2 ** (points - 1) if signed else 1), 2)
    if points > 1:
        # Two ways of one sign are not both a tie.
        pairs = {sign: [a - (n == 0 and ways[sign][0] ** 2) for n, a in enumerate(joint([ways[sign]] * 2, size))]
                 for sign in ways}
        inner = points - 2
        three = sum(joint([pairs[sign], ways[-sign]], size)[inner] for sign in ways)
        four = joint([pairs[1], pairs[-1]], size)[inner]
        found += math.comb(points, 2) * math.factorial(inner) * (Fraction(three, 2) + Fraction(four, 4))
    bead = joint([ways[1], ways[-1]], size)
    for links in range(3, points + 1):
        for beads in range(2, links + 1):
            many = math.comb(links, beads) * (2 if signed else 1) ** (links - beads)
            inner = joint([bead] * beads, size)[points - links]
            found += Fraction(many * inner * math.factorial(points), 2 * links)
    if points > 3:
        for turns in itertools.product((1, -1), repeat=3):
            signs = [-a * b for a, b in itertools.combinations((1,) + turns, 2)]
            found += math.comb(points, 4) * joint([ways[sign] for sign in signs], size)[points - 4] * \
                math.factorial(points - 4)
    return found


def all_cores(signed, size):
    """How many cores there are by their points, each divided by the factorial."""
    return [Fraction(core_number(signed, n), math.factorial(n)) for n in range(size)]


class CountTest(unittest.TestCase):
    def test_told_numbers(self):
        self.assertEqual([web_count("accounts", 1, n) for n in range(7)], [1, 1, 2, 8, 57, 608, 8524])
        self.assertEqual([web_count("alike", 1, n) for n in range(7)], [1, 1, 2, 8, 64, 918, 19204])
        self.assertEqual([web_count("signed", 1, n) for n in range(7)], [1, 1, 4, 64, 2349, 122552, 7770970])
        for court in (1, 2, 3):
            for kind in KINDS:
                self.assertEqual(web_count(kind, court, 0), 1)
        self.assertEqual([web_count(kind, 3, 1) for kind in KINDS], [2, 2, 2])

    def test_all_small_webs(self):
        for kind, most in (("accounts", 5), ("alike", 5), ("signed", 3)):
            for court in (1, 2, 3):
                for points in range(1, most + 1):
                    self.assertEqual(web_count(kind, court, points), len(all_webs(kind, court, points)))
        for court in (2, 3):
            self.assertEqual(web_count("signed", court, 4), len(all_webs("signed", court, 4)))

    def test_accounts_have_two_courts_alike(self):
        for points in (0, 1, 2, 7, 20, 60):
            self.assertEqual(web_count("accounts", 1, points), web_count("accounts", 2, points))

    def test_by_another_way(self):
        for kind in KINDS:
            for court in (2, 3):
                for points in (6, 9, 13):
                    self.assertEqual(web_count(kind, court, points), counted(kind, court, points))
        for kind in ("alike", "signed"):
            for points in range(1, 13):
                self.assertEqual(web_count(kind, 1, points), counted(kind, 1, points))

    def test_cores_of_few_points(self):
        """By trying all webs that are one block."""
        for kind, most in (("alike", 5), ("signed", 4)):
            for points in range(2, most + 1):
                webs = [web for web in all_webs(kind, 1,
                                                points) if len(blocks(web)) == 1 and len(lots_by_hand(web)) == 1]
                cores = [web for web in webs if block_kind(web, blocks(web)[0]) not in ("tie", "odd")]
                self.assertEqual(core_number(kind == "signed", points), len(cores))

    def test_errors(self):
        kinds = [(value, error(InvalidKind, at=-1)) for value in JUNK + ["Accounts", "signed ", ("alike",)]]
        courts = [(value, error(InvalidSize, word="court")) for value in NO_INTEGERS + [0, 4, -1, 10 ** 30]]
        for kind, court, most in (("accounts", 1, 60), ("alike", 1, 12), ("signed", 1, 12), ("signed", 2, 60),
                                  ("alike", 3, 60)):
            points = [(value, error(InvalidSize, word="points")) for value in NO_INTEGERS + [-1, most + 1, 10 ** 30]]
            check_errors(self, web_count, [kind, court, 3], [kinds, courts, points])
            self.assertGreater(web_count(kind, court, most), 10 ** 9)

    def test_limits(self):
        self.assertEqual(web_count("signed", 1, 12), 6247134890864053051)
        self.assertGreater(web_count("signed", 3, 60), 10 ** 130)


class NumberTest(unittest.TestCase):
    def test_by_hand(self):
        """Three accounts: the first alone ahead of two of them, these ahead of all; trees ahead of the ring."""
        told = [nth_web("accounts", 2, 3, number).ties for number in range(8)]
        self.assertEqual(told, [(), ((1, 1, 2, -1),), ((0, 1, 1, -1),), ((0, 1, 2, -1),),
                                ((0, 1, 1, -1), (0, 1, 2, -1)), ((0, 1, 1, -1), (1, 1, 2, -1)),
                                ((0, 1, 2, -1), (1, 1, 2, -1)),
                                ((0, 1, 1, -1), (0, 1, 2, -1), (1, 1, 2, -1))])
        self.assertEqual([nth_web("signed", 2, 2, number).ties for number in range(3)],
                         [(), ((0, 1, 1, -1),), ((0, 1, 1, 1),)])
        self.assertEqual([nth_web("alike", 3, 1, number).ties for number in range(2)], [(), ((0, 1),)])
        self.assertEqual(nth_web("accounts", 3, 2, 4 + 2).ties, ((0, 1, 1, -1), (0, 1)))

    def test_all_in_order(self):
        for kind, most in (("accounts", 5), ("alike", 5), ("signed", 4)):
            for court in (1, 2, 3):
                for points in range(1, most + 1):
                    if court == 1 and kind != "accounts" or (court, points, kind) in ((3, 5, "accounts"), (3, 5,
                                                                                                           "alike")):
                        continue
                    webs = sorted(all_webs(kind, court, points), key=order_key)
                    for number, web in enumerate(webs):
                        self.assertEqual(nth_web(kind, court, points, number).ties, web.ties)
                        self.assertEqual(web_number(kind, court, web), number)

    def test_great_webs(self):
        rng = random.Random(121)
        for kind in KINDS:
            for court in (2, 3):
                for points in (12, 40, 60):
                    many = web_count(kind, court, points)
                    numbers = [0, many - 1] + [rng.randrange(many) for _ in range(6)]
                    keys = []
                    for number in sorted(numbers):
                        web = nth_web(kind, court, points, number)
                        self.assertTrue(COURTS[court](web))
                        self.assertEqual(web_number(kind, court, web), number)
                        keys.append(order_key(web))
                    self.assertEqual(keys, sorted(keys))

    def test_next_ones(self):
        """Neighbours in number are neighbours in order."""
        rng = random.Random(122)
        for kind in KINDS:
            for court in (2, 3):
                many = web_count(kind, court, 8)
                for _ in range(25):
                    number = rng.randrange(many - 1)
                    one, other = nth_web(kind, court, 8, number), nth_web(kind, court, 8, number + 1)
                    self.assertLess(order_key(one), order_key(other))

    def test_errors_of_nth(self):
        kinds = [(value, error(InvalidKind, at=-1)) for value in JUNK]
        courts = [(value, error(InvalidSize, word="court")) for value in NO_INTEGERS + [0, 4]]
        points = [(value, error(InvalidSize, word="points")) for value in NO_INTEGERS + [0, -1, 61, 10 ** 30]]
        numbers = [(value, error(InvalidIndex, at=-1)) for value in NO_INTEGERS + [-1, 8, 10 ** 30]]
        check_errors(self, nth_web, ["accounts", 1, 3, 0], [kinds, courts, points, numbers])
        for kind in ("alike", "signed"):
            self.assertEqual(raised(nth_web, kind, 1, 13, None), error(Refused, at=-1))
            self.assertEqual(raised(nth_web, kind, 1, 61, None), error(InvalidSize, word="points"))
            self.assertEqual(raised(nth_web, kind, 1, 60, 0), error(Refused, at=-1))
        for kind in KINDS:
            for points in (1, 5, 60):
                many = web_count(kind, 2, points)
                self.assertEqual(raised(nth_web, kind, 2, points, many), error(InvalidIndex, at=-1))
                self.assertEqual(nth_web(kind, 2, points, many - 1).points, points)

    def test_errors_of_number(self):
        kinds = [(value, error(InvalidKind, at=-1)) for value in JUNK]
        courts = [(value, error(InvalidSize, word="court")) for value in NO_INTEGERS + [0, 4]]
        fit = Web(3, [(0, 1, 1, -1)])
        for value, told in no_webs():
            self.assertEqual(raised(web_number, "accounts", 2, value), told)
            self.assertEqual(raised(web_number, None, 7, value), error(InvalidWeb, at=-1))
        for value, told in kinds:
            self.assertEqual(raised(web_number, value, 9, fit), told)
        for value, told in courts:
            self.assertEqual(raised(web_number, "alike", value, fit), told)

    def test_refused(self):
        """Webs that are not as any is told: another order, another sign, another court, alike ties, too many points."""
        fit = ((0, 1, 1, -1), (0, 1, 2, -1))
        self.assertEqual(web_number("accounts", 2, Web(3, fit)), 4)
        wrong = [("accounts", 2, Web(3, fit[::-1])), ("alike", 2, Web(3, fit)), ("alike", 1, Web(3, [(0, 1, 1, 1)])),
                 ("signed", 1, Web(3, fit)), ("accounts", 2, Web(3, [(0, -1, 1, 1)])),
                 ("accounts", 2, Web(3, [(0, 1, 1, 1)])), ("signed", 2, Web(3, [(0, -1, 1, -1)])),
                 ("accounts", 2, Web(2, [(0, 1, 1, -1)] * 2)), ("signed", 2, Web(2, [(0, 1, 1, -1), (0, 1, 1, 1)])),
                 ("alike", 2, Web(3, [(0, 1, 1, 1), (0, 1, 2, 1), (1, 1, 2, 1)])),
                 ("accounts", 2, Web(3, [(0, 1)])), ("accounts", 1, Web(3, [(0, 1)])),
                 ("accounts", 3, Web(3, [(0, -1)])), ("accounts", 3, Web(3, [(0, 1), (0, 1)])),
                 ("accounts", 3, Web(3, [(1, 1), (0, 1)])), ("accounts", 3, Web(3, [(0, 1), (0, 1, 1, -1)])),
                 ("accounts", 3, Web(3, [(0, 1, 1, -1), (0, 1, 2, -1), (1, 1, 2, -1), (0, 1)])),
                 ("accounts", 2, Web(61, [])), ("signed", 3, Web(1000, [])), ("alike", 1, Web(1000, [])),
                 ("accounts", 2, Web(4, [(0, 1, 1, -1), (0, 1, 2, -1), (0, 1, 3, -1), (1, 1, 2, -1), (1, 1, 3, -1)]))]
        for kind, court, web in wrong:
            self.assertEqual(raised(web_number, kind, court, web), error(Refused, at=-1), (kind, court, web.ties))
        self.assertEqual(web_number("accounts", 2, Web(60, [])), 0)

    def test_refused_just_where_none_is_alike(self):
        rng = random.Random(123)
        told = {(kind, court): {web.ties: at for at, web in enumerate(sorted(all_webs(kind, court, 3), key=order_key))}
                for kind in KINDS for court in (2, 3)}
        ties = [(a, s, b, t) for a, b in ((0, 1), (0, 2), (1, 2)) for s, t in ((1, 1), (1, -1))] + [(0, 1), (1, 1), (2,
                                                                                                                     1)]
        for _ in range(3000):
            chosen = rng.sample(ties, rng.randint(0, 4))
            web = Web(3, chosen if rng.random() < 0.1 else sorted(chosen, key=lambda tie: (-len(tie), tie)))
            for (kind, court), numbers in told.items():
                due = numbers.get(web.ties, error(Refused, at=-1))
                self.assertEqual(raised(web_number, kind, court, web), due)


if __name__ == "__main__":
    unittest.main()
