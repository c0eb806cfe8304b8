"""Webs and boxes for tests, and slow judges that go by the words of the document alone."""

import itertools
import random

from pushtells.boxes import Box
from pushtells.errors import InvalidWeb
from pushtells.webs import Web

SIGNS = (1, -1)
TRIANGLE = Web(3, [(0, 1, 1, 1), (1, 1, 2, 1), (2, 1, 0, 1)])
PIPES = Web(2, [(0, 1, 1, -1)] * 3)
# Loose ties, alike ties, a tie told with its greater point first, a point without ties, three components.
MIXED = Web(7, [(1, 1, 0, -1), (0, -1), (0, 1, 1, -1), (3, 1, 2, 1), (4, 1), (2, 1, 4, -1), (3, -1, 4, 1), (4, 1)])


def nested(depth):
    value = 1
    for _ in range(depth):
        value = [value, (value,)] if depth < 4 else (value,)
    return value


# True and 1.0 like things would slip through where only == is asked.
JUNK = [None, True, False, -1, 0, 1, 2, 10 ** 30, -10 ** 3999, "", "even", "yes", "0", (), [], (0,), [0], (1, -1),
        [1, True], ("even",), ("odd", ()), ("odd", (0,)), ("even", [1, 1]), ("tie", True), ("tie", [0]),
        ("chain", ()), ("chain", (1, 2)), ("chain", (("tie", 0), ("bead", 0, 1))), ("four", (), ()),
        ("four", (0, 1, 2, 3), (1,) * 6), ("yes", ((),)), ("yes", 3), ("no", (), ()), ("no", (0, 1), None),
        ("ways", ()), ("ways", ((0,), (1,), (1,))), ("rings", (0, 1), (0, 1), ()), ("rings", 1, 2, 3), ("less", 0),
        ("full", ()), ("full", ((0, 1, 2),)), ("full", None), ("bare", None), ("bare", "0"), ((), ()),
        (((0, 1, 0, 0),), ()), (((0, 1, 0),), ()), ((), ((0, 0),)), (0, ()), (0, None), ("end", (), ()),
        ("end", None, None), ("nothing", None), ("nothing", ()), Web(1, []), (Web(1, []), Web(2, [])),
        Box(Web(1, []), [], [0]), (Box(Web(1, []), [], [0]),) * 3, InvalidWeb(3), nested(3), nested(12),
        [[[[[[[[[[[[0]]]]]]]]]]]], ((((((((((((1,),),),),),),),),),),),)]
NO_SEQUENCES = [None, True, 3, "", "01", Web(1, []), 10 ** 30]
NO_INTEGERS = [None, True, False, "1", (), [1], (1,), Web(1, []), InvalidWeb(0)]
NO_WEBS = [None, True, "1", (), [1], InvalidWeb(0), 0, 1, -1, (2, ()), Box(Web(1, []), [], [0])]


def random_web(rng, points, ties, loose=0.2):
    told = []
    for _ in range(ties):
        if points == 1 or rng.random() < loose:
            told.append((rng.randrange(points), rng.choice(SIGNS)))
        else:
            one, other = rng.sample(range(points), 2)
            told.append((one, rng.choice(SIGNS), other, rng.choice(SIGNS)))
    return Web(points, told)


def random_webs(seed, many, points, ties, loose=0.2):
    rng = random.Random(seed)
    return [random_web(rng, rng.randint(1, points), rng.randint(0, ties), loose) for _ in range(many)]


def random_box(rng, web, size):
    bounds = []
    for _ in web.ties:
        least = rng.randint(-size, size)
        bounds.append((least, least + rng.randint(0, size)))
    return Box(web, bounds, [rng.randint(-size, size) for _ in range(web.points)])


def filled_box(rng, web, size):
    """A box that some whole numbers fill."""
    numbers = [rng.randint(-size, size) for _ in web.ties]
    totals = [0] * web.points
    for number, tie in zip(numbers, web.ties):
        for at in range(0, len(tie), 2):
            totals[tie[at]] += tie[at + 1] * number
    return Box(web, [(x - rng.randint(0, size), x + rng.randint(0, size)) for x in numbers], totals)


def random_boxes(seed, many, points, ties, size, loose=0.2):
    """Webs with boxes, most of which something fills."""
    rng = random.Random(seed)
    found = []
    for at in range(many):
        web = random_web(rng, rng.randint(1, points), rng.randint(0, ties), loose)
        found.append((web, (random_box if at % 4 == 0 else filled_box)(rng, web, size)))
    return found


def random_forest(rng, points, loose=0.3):
    told = []
    for point in range(1, points):
        if rng.random() < 0.85:
            told.append((point, rng.choice(SIGNS), rng.randrange(point), rng.choice(SIGNS)))
    for point in range(points):
        if rng.random() < loose:
            told.append((point, rng.choice(SIGNS)))
    rng.shuffle(told)
    names = list(range(points))
    rng.shuffle(names)
    return Web(points, [tuple(names[x] if at % 2 == 0 else x for at, x in enumerate(tie)) for tie in told])


def doubles(web):
    return [number for number, tie in enumerate(web.ties) if len(tie) == 4]


def ends_of(web, number):
    return (web.ties[number][0], web.ties[number][2])


def points_in(web, row):
    return sorted({point for number in row for point in ends_of(web, number)})


def sign_of(web, row):
    """1 if evenly many ties are odd."""
    odd = [number for number in row if web.ties[number][1] == web.ties[number][3]]
    return 1 if len(odd) % 2 == 0 else -1


def go_on(web, allowed, begin, end, row, passed):
    """All rows of the allowed ties that go on to the end through points that were not passed."""
    here = begin if not row else passed[-1]
    for number in allowed:
        if here in ends_of(web, number) and number not in row:
            there = sum(ends_of(web, number)) - here
            if there == end:
                yield row + (number,)
            elif there not in passed:
                yield from go_on(web, allowed, begin, end, row + (number,), passed + [there])


def all_ways(web, begin, end, allowed=None):
    """All ways of one tie or more between two unlike points."""
    return list(go_on(web, doubles(web) if allowed is None else allowed, begin, end, (), [begin]))


def all_rings(web, allowed=None):
    """All rings, begun anywhere, either way round."""
    found = set()
    for begin in range(web.points):
        for row in go_on(web, doubles(web) if allowed is None else allowed, begin, begin, (), [begin]):
            found.add(row)
    return found


def inner_points(web, way, begin):
    here, passed = begin, []
    for number in way:
        here = sum(ends_of(web, number)) - here
        passed.append(here)
    return passed[:-1]


def hangs(web, row):
    """Whether ties hang together."""
    reached, left = [row[0]], list(row[1:])
    while True:
        near = [x for x in left if any(set(ends_of(web, x)) & set(ends_of(web, y)) for y in reached)]
        if not near:
            return not left
        reached += near
        left = [x for x in left if x not in near]


def cancelling_signs(web, row):
    """All sign rows that are not 0 at just the points of these ties, by which all of these cancel."""
    points = points_in(web, row)
    found = []
    for chosen in itertools.product(SIGNS, repeat=len(points)):
        signs = [0] * web.points
        for point, sign in zip(points, chosen):
            signs[point] = sign
        if all(pull_of(web.ties[number], signs) == 0 for number in row):
            found.append(tuple(signs))
    return found


def pull_of(tie, signs):
    return sum(tie[at + 1] * signs[tie[at]] for at in range(0, len(tie), 2))


def bad_pieces(web, allowed=None):
    """{ties: sign rows} of all bad pieces."""
    allowed = doubles(web) if allowed is None else allowed
    found = {}
    for many in range(3, len(allowed) + 1):
        for row in itertools.combinations(allowed, many):
            if many > len(points_in(web, row)) and hangs(web, row):
                signs = cancelling_signs(web, row)
                if signs:
                    found[row] = signs
    return found


def all_signs(web):
    return list(itertools.product((-1, 0, 1), repeat=web.points))


def strict(value):
    """What tells values apart that only == takes for the same: bools, lists, objects."""
    return repr(value)


def spoiled(value):
    """Values near any value: each part left out, doubled, changed, swapped, of another kind."""
    if isinstance(value, tuple):
        yield list(value)
        yield value + (0,)
        yield value + ((),)
        for at, part in enumerate(value):
            yield value[:at] + value[at + 1:]
            yield value[:at] + (part,) + value[at:]
            yield value[:at] + value[at + 1:at + 2] + (part,) + value[at + 2:]
            for other in spoiled(part):
                yield value[:at] + (other,) + value[at + 1:]
    elif isinstance(value, int):
        yield from (value + 1, value - 1, -value, value == 1, str(value), None, (value,), [value])
    elif isinstance(value, str):
        yield from (value + " ", "", None, 0, "tie", "odd", "even", "chain", "four", "bead", "bad", "no", "yes")
    else:
        yield from (0, ())


def spoiled_sample(value, seed, many):
    """Some of all spoiled ones."""
    found = list(spoiled(value))
    if len(found) <= many:
        return found
    return random.Random(seed).sample(found, many)


def raised(call, *args):
    """(class, attributes) of the error of a call, or its result."""
    try:
        return call(*args)
    except Exception as error:
        return type(error), vars(error)


def error(kind, **told):
    return kind, told
