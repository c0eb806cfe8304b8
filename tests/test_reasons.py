"""[75], [76]: who holds an end, why nothing is left, how much room a bound has."""

import itertools
import random
import unittest

from pushtells.errors import InvalidMark, InvalidSheet, InvalidSide, Refused
from pushtells.reasons import held_by, held_holds, room_of, why_holds, why_nothing
from pushtells.sheet import Sheet, read_sheet, sheet_text
from tests.helpers import JUNK, NO_INTEGERS, check_errors, error, no_sides, raised, spoiled_sample
from tests.models import TOP, ends
from tests.test_sheet import DEEDS, filled, sheet_of

NOTHING = "nothing"
NO_SHEETS = [value for value in JUNK if not isinstance(value, Sheet)] + [Sheet, "sheet 0 0"]


def lot_with(sheet, point):
    return next(lot for lot in sheet.lots() if point in lot)


def ties_in(sheet, lot):
    return [row for row in sheet.ties if row[1][0] in lot]


def marks_of(sheet, lot):
    """All marks of a lot, ascending."""
    found = [(word, row[0]) for row in ties_in(sheet, lot) for word in ("least", "greatest")]
    return sorted(found + [("total", point) for point in lot])


def end_by(sheet, lot, marks):
    """{("least" or "greatest", tie): number} in the end by these marks alone, or NOTHING; round by round."""
    rows, totals = ties_in(sheet, lot), dict(sheet.points)
    now = {}
    for number, _, least, greatest in rows:
        now.update({key: x for key, x in ((("least", number), least), (("greatest", number),
                                                                       greatest)) if key in marks})
    looked = [point for point in lot if ("total", point) in marks]
    if any(totals[point] != 0 and not any(point in (at for at, _ in ends(row[1])) for row in rows) for point in looked):
        return NOTHING
    many = 2 * len([row for row in rows if len(row[1]) == 4]) + 2
    for _ in range(many):
        behind = dict(now)
        for point in looked:
            here = [(row[0], sign) for row in rows for at, sign in ends(row[1]) if at == point]
            for number, sign in here:
                others = [(other, told) for other, told in here if other != number]
                for least_of_all in (True, False):
                    # The most of the others leaves the least, and the other way about.
                    needed = [("greatest" if (told == 1) == least_of_all else "least", other) for other, told in others]
                    if all(key in now for key in needed):
                        left = sign * (totals[point] - sum(told * now[key] for key, (_, told) in zip(needed, others)))
                        key = ("least" if (sign == 1) == least_of_all else "greatest", number)
                        better = max if key[0] == "least" else min
                        behind[key] = better(behind.get(key, left), left)
        if any(behind.get(("least", row[0]), -TOP ** 3) > behind.get(("greatest", row[0]), TOP ** 3) for row in rows):
            return NOTHING
        if behind == now:
            return now
        now = behind
    return NOTHING


def end_word(side):
    return "greatest" if side == 1 else "least"


class Question:
    """What is asked of marks: an end of a tie, or that nothing is left of a lot."""

    def __init__(self, sheet, lot, tie=None, side=None):
        self.sheet, self.lot, self.tie, self.side = sheet, lot, tie, side
        self.due = NOTHING if tie is None else sheet.stretch(tie)[side == 1]
        self.told = {}

    def holds(self, marks):
        key = frozenset(marks)
        if key not in self.told:
            end = end_by(self.sheet, self.lot, key)
            if self.tie is not None:
                end = end.get((end_word(self.side), self.tie)) if end is not NOTHING else None
            self.told[key] = end == self.due
        return self.told[key]

    def struck(self, marks):
        """What stays if one after another is struck."""
        left = list(marks)
        for mark in marks:
            less = [other for other in left if other != mark]
            left = less if self.holds(less) else left
        return tuple(sorted(left))

    def is_right(self, value):
        if type(value) is not tuple or any(type(mark) is not tuple or len(mark) != 2 for mark in value):
            return False
        if any(type(mark[0]) is not str or type(mark[1]) is not int for mark in value):
            return False
        if list(value) != sorted(set(value)) or any(mark not in marks_of(self.sheet, self.lot) for mark in value):
            return False
        return self.holds(value) and not any(self.holds([other for other in value if other != mark]) for mark in value)

    def answer(self):
        if self.tie is None:
            return why_nothing(self.sheet, self.lot[0])
        return held_by(self.sheet, self.tie, self.side)

    def judge(self, value):
        if self.tie is None:
            return why_holds(self.sheet, self.lot[-1], value)
        return held_holds(self.sheet, self.tie, self.side, value)


def questions(seed, many, points=4, ties=4):
    """Questions about all ends and all empty lots of small sheets."""
    for at in range(many):
        sheet, _ = filled(seed + at, points, ties)
        for lot in sheet.lots():
            if lot in sheet.empty_lots():
                yield Question(sheet, lot)
                continue
            for row in ties_in(sheet, lot):
                for side in (-1, 1):
                    yield Question(sheet, lot, row[0], side)


class HeldTest(unittest.TestCase):
    def test_by_hand(self):
        sheet = sheet_of(DEEDS)
        self.assertEqual(held_by(sheet, 1, -1), (("greatest", 0), ("total", 0)))
        self.assertEqual(held_by(sheet, 1, 1), (("least", 0), ("total", 0)))
        self.assertEqual(held_by(sheet, 0, -1), (("least", 0),))
        self.assertEqual(held_by(sheet, 0, 1), (("greatest", 0),))
        self.assertIs(held_holds(sheet, 1, -1, (("greatest", 0), ("total", 0))), True)
        for value in ((("total", 0), ("greatest", 0)), (("greatest", 0),), (("total", 0),), (),
                      (("greatest", 0), ("greatest", 1), ("total", 0)), [("greatest", 0), ("total", 0)],
                      (["greatest", 0], ("total", 0)), (("greatest", 0), ("greatest", 0), ("total", 0)),
                      (("greatest", False), ("total", 0)), (("greatest", 0), ("total", 0), ("total", 9))):
            self.assertIs(held_holds(sheet, 1, -1, value), False, value)

    def test_nothing_by_hand(self):
        sheet = sheet_of(DEEDS + (("point", 3), ("total", 0, 13)))
        self.assertEqual(why_nothing(sheet, 0), (("greatest", 0), ("greatest", 1), ("total", 0)))
        self.assertEqual(why_nothing(sheet, 1), (("total", 1),))
        self.assertIs(why_holds(sheet, 1, (("total", 1),)), True)
        for value in ((), (("total", 0),), (("total", 0), ("total", 1)), (("total", True),), [("total", 1)], (("total",
                                                                                                               2),)):
            self.assertIs(why_holds(sheet, 1, value), False, value)

    def test_an_end_held_by_either_of_two(self):
        """Whichever is struck first, what stays is such a lot: another one."""
        sheet = sheet_of([("point", 0), ("tie", (0, 1), 0, 5), ("tie", (0, -1), 0, 5)])
        self.assertEqual(held_by(sheet, 0, 1), (("greatest", 1), ("total", 0)))
        self.assertIs(held_holds(sheet, 0, 1, (("greatest", 0),)), True)
        self.assertIs(held_holds(sheet, 0, 1, (("greatest", 1), ("total", 0))), True)
        self.assertIs(held_holds(sheet, 0, 1, (("greatest", 0), ("greatest", 1), ("total", 0))), False)

    def test_rings_so_wide_that_rounds_go_on(self):
        sheet = sheet_of([("point", 0), ("point", 0), ("point", 1), ("tie", (0, 1, 1, -1), -TOP, TOP),
                          ("tie", (1, 1, 2, -1), -TOP, TOP), ("tie", (2, 1, 0, -1), -TOP, TOP)])
        told = why_nothing(sheet, 1)
        question = Question(sheet, (0, 1, 2))
        self.assertEqual(told, question.struck(marks_of(sheet, (0, 1, 2))))
        self.assertEqual(told, (("least", 2), ("total", 0), ("total", 1), ("total", 2)))
        self.assertIs(why_holds(sheet, 0, told), True)
        self.assertIs(why_holds(sheet, 2, (("greatest", 1), ("total", 0), ("total", 1), ("total", 2))), True)
        self.assertIs(why_holds(sheet, 2, (("total", 0), ("total", 1), ("total", 2))), False)

    def test_struck_one_after_another(self):
        rng = random.Random(161)
        seen = {True: 0, False: 0}
        for question in questions(1000, 60):
            marks = marks_of(question.sheet, question.lot)
            told = question.answer()
            self.assertEqual(told, question.struck(marks))
            self.assertIs(question.judge(told), True)
            seen[question.tie is None] += 1
            for _ in range(3):
                rng.shuffle(marks)
                self.assertIs(question.judge(question.struck(marks)), True)
        self.assertTrue(min(seen.values()) > 8, seen)

    def test_all_lots_of_marks(self):
        for question in questions(1100, 25, 3, 2):
            marks = marks_of(question.sheet, question.lot)
            for many in range(min(len(marks), 5) + 1):
                for value in itertools.combinations(marks, many):
                    self.assertIs(question.judge(value), question.is_right(value), value)

    def test_near_papers(self):
        for at, question in enumerate(questions(1200, 40)):
            paper = question.answer()
            other = [("total", point) for point, _ in question.sheet.points if point not in question.lot]
            for value in spoiled_sample(paper, at, 40) + [paper + tuple(other[:1]),
                                                          tuple(sorted(paper + tuple(other[:1])))]:
                self.assertIs(question.judge(value), question.is_right(value), value)
        sheet = sheet_of(DEEDS)
        empty = sheet_of(DEEDS + (("total", 0, 13),))
        for junk in JUNK:
            for value in (junk, (junk,), (("greatest", junk), ("total", 0)), ((junk, 0), ("total", 0)), (("greatest",
                                                                                                          0), junk)):
                self.assertIs(held_holds(sheet, 1, -1, value), Question(sheet, (0,), 1, -1).is_right(value))
                self.assertIs(why_holds(empty, 0, value), Question(empty, (0,)).is_right(value))

    def test_by_these_marks_alone(self):
        """Whatever all other bounds and totals become, the end is no looser, or nothing is left."""
        rng = random.Random(162)
        for question in questions(1300, 40):
            told = question.answer()
            for _ in range(4):
                sheet = read_sheet(sheet_text(question.sheet))
                for row in question.sheet.ties:
                    low = row[2] if ("least", row[0]) in told else row[3] - rng.randint(0, 9)
                    high = row[3] if ("greatest", row[0]) in told else low + rng.randint(0, 9)
                    sheet.do_deed(("bounds", row[0], low, max(low, high)))
                for point, _ in question.sheet.points:
                    if ("total", point) not in told:
                        sheet.do_deed(("total", point, rng.randint(-9, 9)))
                if question.tie is None:
                    self.assertIn(question.lot, sheet.empty_lots())
                elif question.lot not in sheet.empty_lots():
                    end = sheet.stretch(question.tie)[question.side == 1]
                    self.assertTrue(end <= question.due if question.side == 1 else end >= question.due)

    def test_great_sheets(self):
        rng = random.Random(163)
        for seed in range(2):
            sheet, _ = filled(1400 + seed, 24, 48, 9)
            rows = [row for row in sheet.ties if sheet.stretch(row[0]) is not None]
            for row in rng.sample(rows, min(len(rows), 3)):
                told = held_by(sheet, row[0], 1)
                self.assertIs(held_holds(sheet, row[0], 1, told), True)
        deeds = [("point", 0)] * 24 + [("tie", (at, 1, (at + 1) % 24, -1), -TOP, TOP) for at in range(24)] * 2
        sheet = sheet_of(deeds + [("total", 3, 1)])
        self.assertEqual(sheet.empty_lots(), ())
        self.assertEqual(held_by(sheet, 0, 1), (("greatest", 0),))
        sheet = sheet_of(deeds[:48] + [("total", 3, 1)])
        told = why_nothing(sheet, 5)
        self.assertEqual(told, (("least", 23),) + tuple(("total", point) for point in range(24)))
        self.assertIs(why_holds(sheet, 7, told), True)

    def test_errors(self):
        sheet = sheet_of(DEEDS + (("point", 3), ("tie", (1, 1), 0, 1), ("point", 0)))
        sheets = [(value, error(InvalidSheet, at=-1)) for value in NO_SHEETS]
        ties = [(value, error(Refused, at="tie")) for value in NO_INTEGERS + [-1, 3, 10 ** 30]]
        points = [(value, error(Refused, at="point")) for value in NO_INTEGERS + [-1, 3, 10 ** 30]]
        for call, rest in ((held_by, []), (held_holds, [()])):
            check_errors(self, call, [sheet, 0, 1] + rest, [sheets, ties, no_sides()] + [[]] * len(rest))
            self.assertEqual(raised(call, sheet, 2, 1, *rest), error(Refused, at="nothing"))
            self.assertEqual(raised(call, sheet, 2, 0, *rest), error(InvalidSide, at=-1))
        for call, rest in ((why_nothing, []), (why_holds, [()])):
            check_errors(self, call, [sheet, 1] + rest, [sheets, points] + [[]] * len(rest))
            for point in (0, 2):
                self.assertEqual(raised(call, sheet, point, *rest), error(Refused, at="left"))
        self.assertEqual(why_nothing(sheet, 1), (("greatest", 2), ("total", 1)))


def narrowed(sheet, word, row, by):
    """The sheet with one bound narrowed, or widened where it is below 0."""
    again = read_sheet(sheet_text(sheet))
    pair = (row[2] + by, row[3]) if word == "least" else (row[2], row[3] - by)
    again.do_deed(("bounds", row[0], *pair))
    return again


class RoomTest(unittest.TestCase):
    def test_by_hand(self):
        sheet = sheet_of(DEEDS)
        self.assertEqual(room_of(sheet, ("greatest", 0), 1, -1), 0)
        self.assertEqual(room_of(sheet, ("greatest", 1), 1, 1), 4)
        self.assertEqual(room_of(sheet, ["least", 1], 1, 1), 5)
        self.assertEqual(room_of(sheet, ("least", 1), 1, -1), 2)
        sheet.do_deed(("bounds", 0, 2, 2))
        self.assertEqual([room_of(sheet, (word, 0), 1, 1) for word in ("least", "greatest")], [0, 0])
        sheet = sheet_of(DEEDS + (("point", 0), ("tie", (1, 1), -TOP, TOP), ("point", 5), ("tie", (2, 1), 3, 4)))
        self.assertEqual(room_of(sheet, ("least", 2), 1, 1), 2 * TOP)
        self.assertEqual(room_of(sheet, ("greatest", 2), 1, -1), 2 * TOP)
        self.assertEqual(room_of(sheet, ("greatest", 2), 2, -1), TOP)
        # Of a lot of which nothing is left a bound has its whole width for another lot's end.
        self.assertEqual(room_of(sheet, ("greatest", 3), 1, 1), 1)

    def test_by_trying(self):
        seen = {"none": 0, "some": 0, "all": 0}
        for seed in range(60):
            sheet, _ = filled(1500 + seed, 4, 4)
            for row in sheet.ties:
                if sheet.stretch(row[0]) is None:
                    continue
                lot = lot_with(sheet, row[1][0])
                for side, (word, other) in itertools.product((-1, 1), [(w, r) for r in sheet.ties for w in ("least",
                                                                                                            "greatest")]):
                    width = other[3] - other[2]
                    stays = []
                    for by in range(width + 1):
                        again = narrowed(sheet, word, other, by)
                        told = again.stretch(row[0])
                        left = lot not in again.empty_lots()
                        stays.append(left and told[side == 1] == sheet.stretch(row[0])[side == 1])
                    room = room_of(sheet, (word, other[0]), row[0], side)
                    self.assertEqual(stays, [by <= room for by in range(width + 1)])
                    seen["all" if room == width else "some" if room else "none"] += 1
                    if other[1][0] not in lot:
                        self.assertEqual(room, width)
        self.assertTrue(min(seen.values()) > 30, seen)

    def test_outward_no_room_or_all(self):
        """Widened by 1 a bound moves the end; or the end stays however far, and without its mark."""
        seen = {True: 0, False: 0}
        for question in questions(1600, 40):
            if question.tie is None:
                continue
            sheet, marks = question.sheet, marks_of(question.sheet, question.lot)
            for row, word in itertools.product(ties_in(sheet, question.lot), ("least", "greatest")):
                ahead = [narrowed(sheet, word, row, -by).stretch(question.tie)[question.side == 1] for by in (1, 7,
                                                                                                              10 ** 9)]
                stays = ahead[0] == question.due
                self.assertEqual(stays, question.holds([mark for mark in marks if mark != (word, row[0])]))
                self.assertEqual([end == question.due for end in ahead], [stays] * 3)
                seen[stays] += 1
        self.assertTrue(min(seen.values()) > 30, seen)

    def test_great_sheets(self):
        sheet, _ = filled(1700, 24, 48, 10 ** 17)
        rows = [row for row in sheet.ties if sheet.stretch(row[0]) is not None]
        for row, other in list(zip(rows, rows[1:]))[:6]:
            for word in ("least", "greatest"):
                room = room_of(sheet, (word, other[0]), row[0], 1)
                end = sheet.stretch(row[0])[1]
                self.assertEqual(narrowed(sheet, word, other, room).stretch(row[0])[1], end)
                if room < other[3] - other[2]:
                    told = narrowed(sheet, word, other, room + 1).stretch(row[0])
                    self.assertTrue(told is None or told[1] != end)

    def test_errors(self):
        sheet = sheet_of(DEEDS + (("point", 3), ("tie", (1, 1), 0, 1)))
        sheets = [(value, error(InvalidSheet, at=-1)) for value in NO_SHEETS]
        marks = [(value, error(InvalidMark, at=-1)) for value in JUNK + [
            ("total", 0), ("least", 3), ("least", -1), ("least", True), ("greatest", None), ("Least", 0), ("least",),
            ("least", 0, 0), ("least", (0,)), (0, "least"), ("least", "0"), (None, 0), (Sheet(), 0), ("greatest",
                                                                                                      10 ** 30)]]
        ties = [(value, error(Refused, at="tie")) for value in NO_INTEGERS + [-1, 3, 10 ** 30]]
        check_errors(self, room_of, [sheet, ("least", 0), 1, 1], [sheets, marks, ties, no_sides()])
        self.assertEqual(raised(room_of, sheet, ("least", 0), 2, 1), error(Refused, at="nothing"))
        self.assertEqual(raised(room_of, sheet, ("least", 0), 2, 0), error(InvalidSide, at=-1))
        self.assertEqual(room_of(sheet, ("least", 2), 0, 1), 1)


if __name__ == "__main__":
    unittest.main()
