"""Webs and boxes for tests, and slow judges that go by the words of the document alone."""

import itertools
import random

from pushtells.boxes import Box
from pushtells.desk import Desk
from pushtells.errors import InvalidBox, InvalidLot, InvalidPoint, InvalidSide, InvalidSigns, InvalidTie, InvalidWeb
from pushtells.sheet import Sheet
from pushtells.webs import Web

SIGNS = (1, -1)
TRIANGLE = Web(3, [(0, 1, 1, 1), (1, 1, 2, 1), (2, 1, 0, 1)])
PIPES = Web(2, [(0, 1, 1, -1)] * 3)
# Loose ties, alike ties, a tie told with its greater point first, a point without ties, three components.
MIXED = Web(7, [(1, 1, 0, -1), (0, -1), (0, 1, 1, -1), (3, 1, 2, 1), (4, 1), (2, 1, 4, -1), (3, -1, 4, 1), (4, 1)])


def nested(depth):
    value = 1
    for _ in range(depth):
        value = [value, (value,)] if depth < 4 else (value,)
    return value


# True and 1.0 like things would slip through where only == is asked.
JUNK = [None, True, False, -1, 0, 1, 2, 10 ** 30, -10 ** 3999, "", "even", "yes", "0", (), [], (0,), [0], (1, -1),
        [1, True], ("even",), ("odd", ()), ("odd", (0,)), ("even", [1, 1]), ("tie", True), ("tie", [0]),
        ("chain", ()), ("chain", (1, 2)), ("chain", (("tie", 0), ("bead", 0, 1))), ("four", (), ()),
        ("four", (0, 1, 2, 3), (1,) * 6), ("yes", ((),)), ("yes", 3), ("no", (), ()), ("no", (0, 1), None),
        ("ways", ()), ("ways", ((0,), (1,), (1,))), ("rings", (0, 1), (0, 1), ()), ("rings", 1, 2, 3), ("less", 0),
        ("full", ()), ("full", ((0, 1, 2),)), ("full", None), ("bare", None), ("bare", "0"), ((), ()),
        (((0, 1, 0, 0),), ()), (((0, 1, 0),), ()), ((), ((0, 0),)), (0, ()), (0, None), ("end", (), ()),
        ("end", None, None), ("nothing", None), ("nothing", ()), Web(1, []), (Web(1, []), Web(2, [])),
        Box(Web(1, []), [], [0]), (Box(Web(1, []), [], [0]),) * 3, Sheet(), Desk(), [Sheet()], (Desk(), 0),
        InvalidWeb(3), nested(3), nested(12),
        [[[[[[[[[[[[0]]]]]]]]]]]], ((((((((((((1,),),),),),),),),),),),)]
NO_SEQUENCES = [None, True, 3, "", "01", Web(1, []), 10 ** 30]
NO_INTEGERS = [None, True, False, "1", (), [1], (1,), Web(1, []), InvalidWeb(0)]
NO_WEBS = [None, True, "1", (), [1], InvalidWeb(0), 0, 1, -1, (2, ()), Box(Web(1, []), [], [0])]


def random_web(rng, points, ties, loose=0.2):
    told = []
    for _ in range(ties):
        if points == 1 or rng.random() < loose:
            told.append((rng.randrange(points), rng.choice(SIGNS)))
        else:
            one, other = rng.sample(range(points), 2)
            told.append((one, rng.choice(SIGNS), other, rng.choice(SIGNS)))
    return Web(points, told)


def random_webs(seed, many, points, ties, loose=0.2):
    rng = random.Random(seed)
    return [random_web(rng, rng.randint(1, points), rng.randint(0, ties), loose) for _ in range(many)]


def random_box(rng, web, size):
    bounds = []
    for _ in web.ties:
        least = rng.randint(-size, size)
        bounds.append((least, least + rng.randint(0, size)))
    return Box(web, bounds, [rng.randint(-size, size) for _ in range(web.points)])


def filled_box(rng, web, size):
    """A box that some whole numbers fill."""
    numbers = [rng.randint(-size, size) for _ in web.ties]
    totals = [0] * web.points
    for number, tie in zip(numbers, web.ties):
        for at in range(0, len(tie), 2):
            totals[tie[at]] += tie[at + 1] * number
    return Box(web, [(x - rng.randint(0, size), x + rng.randint(0, size)) for x in numbers], totals)


def random_boxes(seed, many, points, ties, size, loose=0.2):
    """Webs with boxes, most of which something fills."""
    rng = random.Random(seed)
    found = []
    for at in range(many):
        web = random_web(rng, rng.randint(1, points), rng.randint(0, ties), loose)
        found.append((web, (random_box if at % 4 == 0 else filled_box)(rng, web, size)))
    return found


def random_forest(rng, points, loose=0.3):
    told = []
    for point in range(1, points):
        if rng.random() < 0.85:
            told.append((point, rng.choice(SIGNS), rng.randrange(point), rng.choice(SIGNS)))
    for point in range(points):
        if rng.random() < loose:
            told.append((point, rng.choice(SIGNS)))
    rng.shuffle(told)
    names = list(range(points))
    rng.shuffle(names)
    return Web(points, [tuple(names[x] if at % 2 == 0 else x for at, x in enumerate(tie)) for tie in told])


def doubles(web):
    return [number for number, tie in enumerate(web.ties) if len(tie) == 4]


def ends_of(web, number):
    return (web.ties[number][0], web.ties[number][2])


def points_in(web, row):
    return sorted({point for number in row for point in ends_of(web, number)})


def sign_of(web, row):
    """1 if evenly many ties are odd."""
    odd = [number for number in row if web.ties[number][1] == web.ties[number][3]]
    return 1 if len(odd) % 2 == 0 else -1


def go_on(web, allowed, begin, end, row, passed):
    """All rows of the allowed ties that go on to the end through points that were not passed."""
    here = begin if not row else passed[-1]
    for number in allowed:
        if here in ends_of(web, number) and number not in row:
            there = sum(ends_of(web, number)) - here
            if there == end:
                yield row + (number,)
            elif there not in passed:
                yield from go_on(web, allowed, begin, end, row + (number,), passed + [there])


def all_ways(web, begin, end, allowed=None):
    """All ways of one tie or more between two unlike points."""
    return list(go_on(web, doubles(web) if allowed is None else allowed, begin, end, (), [begin]))


def all_rings(web, allowed=None):
    """All rings, begun anywhere, either way round."""
    found = set()
    for begin in range(web.points):
        for row in go_on(web, doubles(web) if allowed is None else allowed, begin, begin, (), [begin]):
            found.add(row)
    return found


def inner_points(web, way, begin):
    here, passed = begin, []
    for number in way:
        here = sum(ends_of(web, number)) - here
        passed.append(here)
    return passed[:-1]


def hangs(web, row):
    """Whether ties hang together."""
    reached, left = [row[0]], list(row[1:])
    while True:
        near = [x for x in left if any(set(ends_of(web, x)) & set(ends_of(web, y)) for y in reached)]
        if not near:
            return not left
        reached += near
        left = [x for x in left if x not in near]


def cancelling_signs(web, row):
    """All sign rows that are not 0 at just the points of these ties, by which all of these cancel."""
    points = points_in(web, row)
    found = []
    for chosen in itertools.product(SIGNS, repeat=len(points)):
        signs = [0] * web.points
        for point, sign in zip(points, chosen):
            signs[point] = sign
        if all(pull_of(web.ties[number], signs) == 0 for number in row):
            found.append(tuple(signs))
    return found


def pull_of(tie, signs):
    return sum(tie[at + 1] * signs[tie[at]] for at in range(0, len(tie), 2))


def bad_pieces(web, allowed=None):
    """{ties: sign rows} of all bad pieces."""
    allowed = doubles(web) if allowed is None else allowed
    found = {}
    for many in range(3, len(allowed) + 1):
        for row in itertools.combinations(allowed, many):
            if many > len(points_in(web, row)) and hangs(web, row):
                signs = cancelling_signs(web, row)
                if signs:
                    found[row] = signs
    return found


def all_signs(web):
    return list(itertools.product((-1, 0, 1), repeat=web.points))


def strict(value):
    """What tells values apart that only == takes for the same: bools, lists, objects."""
    return repr(value)


def spoiled(value):
    """Values near any value: each part left out, doubled, changed, swapped, of another kind."""
    if isinstance(value, tuple):
        yield list(value)
        yield value + (0,)
        yield value + ((),)
        for at, part in enumerate(value):
            yield value[:at] + value[at + 1:]
            yield value[:at] + (part,) + value[at:]
            yield value[:at] + value[at + 1:at + 2] + (part,) + value[at + 2:]
            for other in spoiled(part):
                yield value[:at] + (other,) + value[at + 1:]
    elif isinstance(value, int):
        yield from (value + 1, value - 1, -value, value == 1, str(value), None, (value,), [value])
    elif isinstance(value, str):
        yield from (value + " ", "", None, 0, "tie", "odd", "even", "chain", "four", "bead", "bad", "no", "yes")
    else:
        yield from (0, ())


def spoiled_sample(value, seed, many):
    """Some of all spoiled ones."""
    found = list(spoiled(value))
    if len(found) <= many:
        return found
    return random.Random(seed).sample(found, many)


def raised(call, *args):
    """(class, attributes) of the error of a call, or its result."""
    try:
        return call(*args)
    except Exception as error:
        return type(error), vars(error)


def error(kind, **told):
    return kind, told


def check_errors(case, call, fit, wrongs):
    """Of each argument each wrong value raises its error, whatever stands behind it.

    wrongs: for each argument pairs (wrong value, error), none for what is not checked.
    """
    for at, pairs in enumerate(wrongs):
        behind = [wrong[0][0] if wrong else value for wrong, value in zip(wrongs[at + 1:], fit[at + 1:])]
        for value, told in pairs:
            case.assertEqual(raised(call, *fit[:at], value, *fit[at + 1:]), told, (call, value))
            case.assertEqual(raised(call, *fit[:at], value, *behind), told, (call, value))


def no_webs():
    return [(value, error(InvalidWeb, at=-1)) for value in NO_WEBS]


def no_boxes(web):
    """No Box, or one of another number of ties or points."""
    others = [Box(Web(web.points, []), [], [0] * web.points) if web.ties else Box(Web(1, [(0, 1)]), [(0, 1)], [0]),
              Box(Web(web.points + 1, web.ties), [(0, 1)] * len(web.ties), [0] * (web.points + 1))]
    return [(value, error(InvalidBox, at=-1)) for value in [None, True, 0, "", (), [], web] + others]


def no_ties(web):
    return [(value, error(InvalidTie, at=-1)) for value in NO_INTEGERS + [-1, len(web.ties), 10 ** 30]]


def no_points(web):
    return [(value, error(InvalidPoint, at=-1)) for value in NO_INTEGERS + [-1, web.points, 10 ** 30]]


def no_sides():
    return [(value, error(InvalidSide, at=-1)) for value in NO_INTEGERS + [0, 2, -2, 10 ** 30]]


def no_rows(kind, many, right, wrong):
    """No sequence of so many things, or one with a wrong one: the first such place is told."""
    found = [(value, error(kind, at=-1)) for value in NO_SEQUENCES + [[right] * (many + 1), (wrong[0],) * (many + 1)]]
    if many:
        found += [(value, error(kind, at=-1)) for value in [(), [], (wrong[0],) * (many - 1)] if len(value) != many]
    for bad in wrong:
        for at in range(many):
            row = [right] * at + [bad] + [wrong[0]] * (many - at - 1)
            found += [(row, error(kind, at=at)), (tuple(row[:at + 1]) + (right,) * (many - at - 1), error(kind, at=at))]
    return found


def no_signs(web, noughts=False):
    """Wrong signs; of further sums noughts alone are wrong, too."""
    found = no_rows(InvalidSigns, web.points, 1, NO_INTEGERS + [2, -2, 10 ** 30])
    return found + ([((0,) * web.points, error(InvalidSigns, at=-1))] if noughts else [])


def no_lots(many):
    """No lots of so many numbers: the first place that is none, or was there."""
    found = [(value, error(InvalidLot, at=-1)) for value in NO_SEQUENCES]
    for bad in NO_INTEGERS + [-1, many, 10 ** 30]:
        found.append(([bad], error(InvalidLot, at=0)))
        if many:
            found.append(((0, bad, None), error(InvalidLot, at=1)))
    if many:
        found += [([many - 1, many - 1, None], error(InvalidLot, at=1))]
    if many > 1:
        found += [((1, 0, 1), error(InvalidLot, at=2))]
    return found


def half_rows(web, box):
    """All fillings in whole numbers and halves, doubled, by trying."""
    rows = itertools.product(*[range(2 * least, 2 * most + 1) for least, most in box.bounds])
    due = tuple(2 * total for total in box.totals)
    return [row for row in rows if totals_of(web, row) == due]


def whole_rows(web, box):
    """All whole fillings, by trying."""
    rows = itertools.product(*[range(least, most + 1) for least, most in box.bounds])
    return [row for row in rows if totals_of(web, row) == box.totals]


def totals_of(web, row):
    """The signed sums of numbers on ties."""
    sums = [0] * web.points
    for number, tie in zip(row, web.ties):
        for at in range(0, len(tie), 2):
            sums[tie[at]] += tie[at + 1] * number
    return tuple(sums)


def lack_by_hand(web, box, signs):
    """How much more the signed totals are than all that ties can bring."""
    brought = sum(max(pull_of(tie, signs) * x for x in pair) for tie, pair in zip(web.ties, box.bounds))
    return sum(s * t for s, t in zip(signs, box.totals)) - brought


def integers(value, many):
    """Whether it is a tuple of so many integers."""
    return type(value) is tuple and len(value) == many and all(type(x) is int for x in value)


def are_signs(web, value):
    return integers(value, web.points) and all(-1 <= x <= 1 for x in value)


def shows_by_hand(web, box, value):
    return are_signs(web, value) and lack_by_hand(web, box, value) > 0


def fills_by_hand(web, box, value, times=2):
    """Whether any value is a filling, told so many times."""
    if not integers(value, len(web.ties)) or totals_of(web, value) != tuple(times * x for x in box.totals):
        return False
    return all(times * least <= x <= times * most for x, (least, most) in zip(value, box.bounds))


def told_as(value, word, many):
    """Whether it is a tuple of so many things, the word ahead."""
    return type(value) is tuple and len(value) == many and type(value[0]) is str and value[0] == word


def odd_components(web):
    """The lots of points that hang together and have an odd ring."""
    odd = [points_in(web, ring) for ring in all_rings(web) if sign_of(web, ring) == -1]
    return [lot for lot in lots_by_hand(web) if any(ring[0] in lot for ring in odd)]


def lots_by_hand(web, row=None):
    """Points that hang together by ties of two points."""
    lots = [{point} for point in range(web.points)]
    for number in doubles(web) if row is None else row:
        joined = [lot for lot in lots if lot & set(ends_of(web, number))]
        lots = [lot for lot in lots if lot not in joined] + [set().union(*joined)]
    return sorted(tuple(sorted(lot)) for lot in lots)


def great_boxes(seed, many=2, points=150, ties=360, size=10 ** 18):
    """Webs of the greatest sizes with boxes that something fills."""
    rng = random.Random(seed)
    found = []
    for at in range(many):
        web = random_web(rng, points, ties, 0.1 * at)
        found.append((web, filled_box(rng, web, size)))
    return found
