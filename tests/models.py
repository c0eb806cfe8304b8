"""A slow sheet by the words of the document, deeds for it, and stretches by looks at single points."""

import copy

from pushtells.boxes import Box
from pushtells.errors import InvalidDeed, Refused
from pushtells.webs import Web

TOP = 10 ** 18
WORDS = {"point": 2, "tie": 4, "bounds": 4, "cut": 4, "total": 3, "shift": 3, "turn": 2, "take tie": 2, "take point": 2}


def amount(value):
    return type(value) is int and -TOP <= value <= TOP


def number(value):
    return type(value) is int and value >= 0


def is_deed(value):
    """Whether any value is a deed, whatever is there."""
    if type(value) not in (list, tuple) or not value or type(value[0]) is not str or WORDS.get(value[0]) != len(value):
        return False
    word, rest = value[0], list(value[1:])
    if word == "point":
        return amount(rest[0])
    if word == "tie":
        return is_tie(rest[0]) and amount(rest[1]) and amount(rest[2]) and rest[1] <= rest[2]
    if not number(rest[0]):
        return False
    if word in ("bounds", "cut"):
        return amount(rest[1]) and amount(rest[2]) and rest[1] <= rest[2]
    return len(rest) == 1 or amount(rest[1])


def is_tie(value):
    if type(value) not in (list, tuple) or len(value) not in (2, 4):
        return False
    fine = all(number(value[at]) and type(value[at + 1]) is int and value[at + 1] in (1, -1)
               for at in range(0, len(value), 2))
    return fine and (len(value) == 2 or value[0] != value[2])


def as_tuples(value):
    return tuple(as_tuples(part) for part in value) if isinstance(value, (list, tuple)) else value


def ends(tie):
    return [(tie[at], tie[at + 1]) for at in range(0, len(tie), 2)]


class Model:
    """points: {number: total}, ties: {number: [tie, least, greatest]}."""

    def __init__(self):
        self.now = {"points": {}, "ties": {}, "next": [0, 0]}
        self.past, self.ahead, self.deeds, self.watched = [], [], [], []

    def tie(self, at):
        if at not in self.now["ties"]:
            raise Refused("tie")
        return self.now["ties"][at]

    def point(self, at):
        if at not in self.now["points"]:
            raise Refused("point")
        return self.now["points"][at]

    def do(self, deed):
        """The number and the news; nothing changes where it raises."""
        if not is_deed(deed):
            raise InvalidDeed(-1)
        deed = as_tuples(deed)
        before = copy.deepcopy(self.now)
        old = self.stretches()
        try:
            came = self.change(deed)
        except Refused:
            self.now = before
            raise
        self.past.append(before)
        self.deeds.append(deed)
        self.ahead = []
        return came, self.news(old)

    def news(self, old):
        new = self.stretches()
        told = [(tie, old[tie], new.get(tie, ())) for tie in sorted(self.watched) if old[tie] != new.get(tie, ())]
        self.watched = [tie for tie in self.watched if tie in new]
        return tuple(told)

    def change(self, deed):
        word = deed[0]
        points, ties = self.now["points"], self.now["ties"]
        if word == "point":
            return self.come("points", deed[1], 0, 24, "points")
        if word == "tie":
            for at, _ in ends(deed[1]):
                self.point(at)
            tie = deed[1] if len(deed[1]) == 2 or deed[1][0] < deed[1][2] else deed[1][2:] + deed[1][:2]
            return self.come("ties", [tie, deed[2], deed[3]], 1, 48, "many")
        if word in ("bounds", "cut"):
            told = self.tie(deed[1])
            least, greatest = deed[2:]
            if word == "cut":
                least, greatest = max(least, told[1]), min(greatest, told[2])
                if least > greatest:
                    raise Refused("cut")
            told[1:] = [least, greatest]
        if word == "total":
            self.point(deed[1])
            points[deed[1]] = deed[2]
        if word == "shift":
            told = self.tie(deed[1])
            told[1:] = [told[1] + deed[2], told[2] + deed[2]]
            for at, sign in ends(told[0]):
                points[at] += sign * deed[2]
            if not all(amount(x) for x in told[1:] + [points[at] for at, _ in ends(told[0])]):
                raise Refused("size")
        if word == "turn":
            points[deed[1]] = -self.point(deed[1])
            for told in ties.values():
                told[0] = sum(((at, -sign if at == deed[1] else sign) for at, sign in ends(told[0])), ())
        if word == "take tie":
            self.tie(deed[1])
            del ties[deed[1]]
        if word == "take point":
            self.point(deed[1])
            if any(deed[1] == at for told in ties.values() for at, _ in ends(told[0])):
                raise Refused("ties")
            del points[deed[1]]
        return None

    def come(self, kind, thing, at, most, word):
        if len(self.now[kind]) >= most:
            raise Refused(word)
        came = self.now["next"][at]
        self.now[kind][came] = thing
        self.now["next"][at] += 1
        return came

    def undo(self):
        if not self.past:
            return None
        old = self.stretches()
        self.ahead.append((self.deeds.pop(), self.now))
        self.now = self.past.pop()
        return None, self.news(old)

    def redo(self):
        if not self.ahead:
            return None
        old, before = self.stretches(), self.now
        deed, behind = self.ahead.pop()
        self.past.append(before)
        self.deeds.append(deed)
        self.now = behind
        came = {"point": before["next"][0], "tie": before["next"][1]}.get(deed[0])
        return came, self.news(old)

    def watch(self, tie):
        if not number(tie):
            raise Refused("tie")
        self.tie(tie)
        if tie not in self.watched:
            self.watched.append(tie)

    def leave(self, tie):
        if not number(tie) or tie not in self.watched:
            raise Refused("tie")
        self.watched.remove(tie)

    def point_rows(self):
        return tuple(sorted(self.now["points"].items()))

    def tie_rows(self):
        return tuple((at, told[0], told[1], told[2]) for at, told in sorted(self.now["ties"].items()))

    def lots(self):
        lots = [{point} for point in self.now["points"]]
        for told in self.now["ties"].values():
            joined = [lot for lot in lots if any(at in lot for at, _ in ends(told[0]))]
            lots = [lot for lot in lots if lot not in joined] + [set().union(*joined)]
        return tuple(sorted(tuple(sorted(lot)) for lot in lots))

    def part(self, lot):
        """(web, box, numbers of ties) of a lot alone."""
        rows = [row for row in self.tie_rows() if row[1][0] in lot]
        web = Web(len(lot), [tuple(lot.index(x) if at % 2 == 0 else x for at, x in enumerate(row[1])) for row in rows])
        box = Box(web, [row[2:] for row in rows], [self.now["points"][point] for point in lot])
        return web, box, [row[0] for row in rows]

    def stretches(self):
        told = {}
        for lot in self.lots():
            web, box, names = self.part(lot)
            end = looked_through(web, box)
            told.update({name: None if end is None else tuple(end[at]) for at, name in enumerate(names)})
        return told

    def empty_lots(self):
        return tuple(lot for lot in self.lots() if looked_through(*self.part(lot)[:2]) is None)


def looked_through(web, box):
    """The bounds behind looks at one point after another till nothing moves; None if nothing is left.

    So many times round as [19] lets, then nothing is left.
    """
    bounds = [list(pair) for pair in box.bounds]
    for point in range(web.points):
        if not any(point == at for tie in web.ties for at, _ in ends(tie)) and box.totals[point] != 0:
            return None
    many = 2 * len([tie for tie in web.ties if len(tie) == 4]) + 3
    for _ in range(many):
        moved = False
        for point in range(web.points):
            for at, tie in enumerate(web.ties):
                for end, sign in ends(tie):
                    if end == point:
                        moved = look(web, box.totals[point], bounds, at, point, sign) or moved
                if bounds[at][0] > bounds[at][1]:
                    return None
        if not moved:
            return bounds
    return None


def look(web, total, bounds, at, point, sign):
    """Cut a tie to what the others at a point leave it."""
    low = high = total
    for other, tie in enumerate(web.ties):
        for end, told in ends(tie):
            if end == point and other != at:
                parts = sorted(told * x for x in bounds[other])
                low, high = low - parts[1], high - parts[0]
    least, greatest = sorted((sign * low, sign * high))
    before = list(bounds[at])
    bounds[at] = [max(before[0], least), min(before[1], greatest)]
    return bounds[at] != before


def random_deed(rng, model, size):
    """A deed, most often one that can be done."""
    points, ties = list(model.now["points"]), list(model.now["ties"])
    word = rng.choice(["point", "tie", "tie", "tie", "bounds", "cut", "cut", "total", "shift", "turn", "take tie",
                       "take point"])
    some_point = rng.choice(points) if points and rng.random() < 0.95 else rng.randint(0, 9)
    some_tie = rng.choice(ties) if ties and rng.random() < 0.95 else rng.randint(0, 9)
    least = rng.randint(-size, size)
    pair = (least, least + rng.randint(0, size))
    if word == "point":
        return "point", rng.randint(-size, size)
    if word == "tie":
        told = [some_point, rng.choice((1, -1))]
        if len(points) > 1 and rng.random() < 0.8:
            told += [rng.choice([x for x in points if x != some_point]), rng.choice((1, -1))]
        return "tie", tuple(told) if rng.random() < 0.8 else told, pair[0], pair[1]
    if word in ("bounds", "cut"):
        return word, some_tie, *pair
    if word == "total":
        return word, some_point, rng.randint(-size, size)
    if word == "shift":
        return word, some_tie, rng.randint(-size, size)
    return word, some_point if word in ("turn", "take point") else some_tie
