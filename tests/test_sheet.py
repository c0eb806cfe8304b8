"""[70] to [74]: the sheet, its deeds, stretches, verdicts and texts."""

import random
import unittest

from pushtells.boxes import Box
from pushtells.courts import court2, court3
from pushtells.errors import InvalidDeed, InvalidIndex, InvalidSheet, InvalidText, Refused
from pushtells.fools import built_box
from pushtells.pieces import court1, court1_paper
from pushtells.sheet import Sheet, read_sheet, sheet_text
from pushtells.webs import Web
from tests.helpers import (JUNK, NO_INTEGERS, error, fills_by_hand, half_rows, raised, shows_by_hand, totals_of)
from tests.models import TOP, Model, is_deed, random_deed
from tests.test_texts import NO_NUMBERS, NO_TEXTS, near_texts

DEEDS = (("point", 5), ("tie", (0, 1), 0, 3), ("tie", (0, 1), 0, 9))


def sheet_of(deeds):
    sheet = Sheet()
    for deed in deeds:
        sheet.do_deed(deed)
    return sheet


def seen(sheet):
    """All that a sheet tells of what is there."""
    now = [raised(sheet.web_now), raised(sheet.box_now)]
    return (sheet.points, sheet.ties, sheet.watched, [sheet.stretch(row[0]) for row in sheet.ties], sheet.lots(),
            sheet.empty_lots(), sheet.verdict(), sheet_text(sheet), [vars(x) if not isinstance(x,
                                                                                               tuple) else x for x in now])


def whole_state(sheet):
    """All that it tells, moments and what may be done again, too."""
    return seen(sheet), sheet.deeds, [sheet.stretches_at(at) for at in range(len(sheet.deeds) + 1)], vars(sheet).copy()


def grown(seed, many, size=6):
    """A sheet and the model, after so many random deeds."""
    rng = random.Random(seed)
    sheet, model = Sheet(), Model()
    while len(sheet.deeds) < many:
        deed = random_deed(rng, model, size)
        if raised(model.do, deed)[0] is not Refused:
            sheet.do_deed(deed)
    return sheet, model


def filled(seed, points, ties, size=2):
    """A sheet and the model that something fills, or where one total is off."""
    rng = random.Random(seed)
    model = Model()
    deeds = [("point", 0)] * rng.randint(2, points)
    for _ in range(rng.randint(2, ties)):
        one, other = rng.sample(range(len(deeds)), 2)
        tie = (one, rng.choice((1, -1)), other, rng.choice((1, -1)))
        model.deeds.append(("tie", tie if rng.random() < 0.85 else tie[:2], -rng.randint(0, size), rng.randint(0,
                                                                                                               size)))
    deeds += model.deeds
    deeds += [("shift", at, rng.randint(-size, size)) for at in range(len(model.deeds))]
    if rng.random() < 0.3:
        deeds.append(("total", 0, rng.randint(-size, size)))
    model = Model()
    for deed in deeds:
        model.do(deed)
    return sheet_of(deeds), model


class DeedTest(unittest.TestCase):
    def test_by_hand(self):
        sheet = Sheet()
        self.assertEqual((sheet.points, sheet.ties, sheet.deeds, sheet.watched), ((), (), (), ()))
        self.assertEqual([sheet.do_deed(deed) for deed in DEEDS], [(0, ()), (0, ()), (1, ())])
        self.assertEqual(sheet.stretch(1), (2, 5))
        self.assertIsNone(sheet.watch(1))
        self.assertEqual(sheet.do_deed(("cut", 0, 1, 2)), (None, ((1, (2, 5), (3, 4)),)))
        self.assertEqual(sheet.undo_deed(), (None, ((1, (3, 4), (2, 5)),)))
        self.assertEqual(sheet.verdict(), (((0,), "exact"),))
        self.assertEqual(sheet.points, ((0, 5),))
        self.assertEqual(sheet.ties, ((0, (0, 1), 0, 3), (1, (0, 1), 0, 9)))
        self.assertEqual(sheet.deeds, DEEDS)

    def test_deeds_are_kept_as_they_were_handed_in(self):
        sheet = sheet_of([["point", 1], ("point", 2)])
        told = [1, 1, 0, -1]
        deed = ["tie", told, 3, 4]
        sheet.do_deed(deed)
        told[0] = 7
        deed[2] = 9
        self.assertEqual(sheet.deeds, (("point", 1), ("point", 2), ("tie", (1, 1, 0, -1), 3, 4)))
        self.assertEqual(sheet.ties, ((0, (0, -1, 1, 1), 3, 4),))

    def test_each_deed(self):
        sheet = sheet_of([("point", 1), ("point", 2), ("tie", (1, 1, 0, -1), -3, 4), ("tie", (1, -1), 0, 2)])
        self.assertEqual(sheet.do_deed(("bounds", 0, -5, 5)), (None, ()))
        self.assertEqual(sheet.ties[0], (0, (0, -1, 1, 1), -5, 5))
        sheet.do_deed(("cut", 0, -9, 3))
        self.assertEqual(sheet.ties[0], (0, (0, -1, 1, 1), -5, 3))
        sheet.do_deed(("shift", 0, 10))
        self.assertEqual((sheet.points, sheet.ties[0]), (((0, -9), (1, 12)), (0, (0, -1, 1, 1), 5, 13)))
        sheet.do_deed(("turn", 1))
        self.assertEqual((sheet.points, sheet.ties), (((0, -9), (1, -12)), ((0, (0, -1, 1, -1), 5, 13), (1, (1, 1), 0,
                                                                                                         2))))
        sheet.do_deed(("total", 0, 7))
        self.assertEqual(sheet.points, ((0, 7), (1, -12)))
        sheet.do_deed(("take tie", 0))
        self.assertEqual(sheet.ties, ((1, (1, 1), 0, 2),))
        sheet.do_deed(("take point", 0))
        self.assertEqual(sheet.points, ((1, -12),))
        self.assertEqual(sheet.do_deed(("point", 0)), (2, ()))
        self.assertEqual(sheet.do_deed(("tie", (2, 1), 0, 0)), (2, ()))

    def test_against_the_model(self):
        """Deeds of all kinds, some refused; taken back, done again, watched; all that is told, at each step."""
        rng = random.Random(141)
        words = {}
        for _ in range(14):
            sheet, model = Sheet(), Model()
            for _ in range(70):
                step = rng.random()
                if step < 0.7:
                    deed = random_deed(rng, model, 5)
                    state = whole_state(sheet)
                    asked = raised(sheet.news_if, deed)
                    self.assertEqual(whole_state(sheet), state)
                    due = raised(model.do, deed)
                    self.assertEqual((asked, raised(sheet.do_deed, deed)), (due, due))
                    if due[0] is Refused:
                        self.assertEqual(whole_state(sheet), state)
                        words[due[1]["at"]] = words.get(due[1]["at"], 0) + 1
                elif step < 0.8:
                    self.assertEqual(sheet.undo_deed(), model.undo())
                elif step < 0.87:
                    self.assertEqual(sheet.redo_deed(), model.redo())
                else:
                    tie, way = rng.randint(0, 9), rng.choice(("watch", "watch", "leave"))
                    self.assertEqual(raised(getattr(sheet, way), tie), raised(getattr(model, way), tie))
                self.check_alike(sheet, model)
        self.assertTrue(all(words.get(word, 0) > 3 for word in ("tie", "point", "cut", "ties")), words)

    def check_alike(self, sheet, model):
        self.assertEqual(sheet.points, model.point_rows())
        self.assertEqual(sheet.ties, model.tie_rows())
        self.assertEqual((sheet.deeds, sheet.watched), (tuple(model.deeds), tuple(sorted(model.watched))))
        stretches = model.stretches()
        self.assertEqual({row[0]: sheet.stretch(row[0]) for row in sheet.ties}, stretches)
        self.assertEqual(sheet.stretches_at(len(sheet.deeds)), tuple(sorted(stretches.items())))
        self.assertEqual((sheet.lots(), sheet.empty_lots()), (model.lots(), model.empty_lots()))
        if sheet.points:
            names = [point for point, _ in sheet.points]
            ties = [tuple(names.index(x) if at % 2 == 0 else x for at, x in enumerate(row[1])) for row in sheet.ties]
            web = Web(len(names), ties)
            self.assertEqual(sheet.web_now(), web)
            self.assertEqual(sheet.box_now(), Box(web, [row[2:] for row in sheet.ties], [t for _, t in sheet.points]))
        else:
            self.assertEqual(raised(sheet.web_now), error(Refused, at="points"))
            self.assertEqual(raised(sheet.box_now), error(Refused, at="points"))

    def test_no_deeds(self):
        sheet = sheet_of(DEEDS)
        state = whole_state(sheet)
        wrong = JUNK + NO_INTEGERS + [
            ("point",), ("point", 1, 2), ("point", TOP + 1), ("point", -TOP - 1), ("point", True), ("point", None),
            ("Point", 1), ("points", 1), (["point"], 1), ("tie", (0, 1), 0), ("tie", (0, 1), 1, 0), ("tie", (0, 2), 0,
                                                                                                     1),
            ("tie", (0, 1, 0, 1), 0, 1), ("tie", (0, 1, 1), 0, 1), ("tie", (-1, 1), 0, 1), ("tie", (0, True), 0, 1),
            ("tie", (True, 1), 0, 1), ("tie", (0, 1, None, 1), 0, 1), ("tie", 0, 0, 1), ("tie", (), 0, 1), ("tie",
                                                                                                            None, 0, 1),
            ("tie", (0, 1), -TOP - 1, 0), ("tie", (0, 1), 0, TOP + 1), ("tie", (0, 1), False, 1), ("tie", "0+", 0, 1),
            ("tie", (0, 1, 1, 2), 0, 1), ("tie", (0, 1, 1, 0), 0, 1), ("tie", (0, 1, 1, True), 0, 1),
            ("bounds", 0, 1), ("bounds", -1, 0, 1), ("bounds", 0, 1, 0), ("bounds", 0, 0, TOP + 1), ("bounds", True, 0,
                                                                                                     1),
            ("cut", 0, 1, 0), ("cut", -1, 0, 1), ("cut", 0, "0", 1), ("cut", 0), ("total", 0), ("total", -1, 0),
            ("total", 0, TOP + 1), ("total", 0, None), ("shift", 0, TOP + 1), ("shift", -1, 0), ("shift", 0, True),
            ("turn", -1), ("turn", None), ("turn", 0, 0), ("turn",), ("take tie", -1), ("take tie", (0,)), ("take tie",
                                                                                                            ),
            ("take point", True), ("take point", -1), ("take", 0), ("drop tie", 0), ("undo",), (("point", 1),), (1,
                                                                                                                 "point")]
        for value in wrong:
            self.assertFalse(is_deed(value), value)
            for call in (sheet.do_deed, sheet.news_if):
                self.assertEqual(raised(call, value), error(InvalidDeed, at=-1), value)
        self.assertEqual(whole_state(sheet), state)
        for value in (("point", TOP), ("point", -TOP), ["tie", [0, -1], -TOP, TOP], ("shift", 0, 0), ["turn", 0]):
            self.assertIs(type(sheet.news_if(value)), tuple)

    def test_refused(self):
        sheet = sheet_of([("point", 5), ("point", TOP), ("tie", (0, 1), 0, 3), ("tie", (0, 1, 1, 1), 0, TOP), ("tie",
                                                                                                               (0, -1),
                                                                                                               0, 3)])
        state = whole_state(sheet)
        for deed, word in ((("bounds", 3, 0, 1), "tie"), (("cut", 3, 0, 1), "tie"), (("shift", 3, TOP), "tie"),
                           (("take tie", 3), "tie"), (("take tie", 10 ** 40), "tie"), (("tie", (2, 1), 0, 1), "point"),
                           (("tie", (0, 1, 2, 1), 0, 1), "point"), (("tie", (9, 1, 0, 1), 0, 1), "point"),
                           (("total", 2, 0), "point"), (("turn", 2), "point"), (("take point", 2), "point"),
                           (("cut", 0, 4, 9), "cut"), (("cut", 0, -9, -1), "cut"), (("take point", 0), "ties"),
                           (("take point", 1), "ties"), (("shift", 1, 1), "size"), (("shift", 1, -TOP), None),
                           (("shift", 0, TOP), "size"), (("shift", 0, TOP - 5), None), (("shift", 0, TOP - 4), "size"),
                           (("shift", 2, TOP - 3), None), (("shift", 2, TOP - 2), "size"), (("cut", 0, 3, 9), None),
                           (("shift", 2, -TOP), "size"), (("shift", 0, -TOP), None)):
            told = raised(sheet.news_if, deed)
            self.assertEqual(told, error(Refused, at=word) if word else (None, ()), deed)
            if word:
                self.assertEqual(raised(sheet.do_deed, deed), told)
        self.assertEqual(whole_state(sheet), state)

    def test_shifts_to_the_limit(self):
        """Each of the bounds and the totals may be at it, and none beyond."""
        for least, greatest, sign, total, most, fewest in ((0, 5, 1, 0, TOP - 5, -TOP), (-5, 0, 1, 0, TOP, 5 - TOP),
                                                           (0, 0, -1, -7, TOP - 7, -TOP), (0, 0, 1, 7, TOP - 7, -TOP),
                                                           (0, 0, -1, 7, TOP, 7 - TOP), (0, 0, 1, -7, TOP, 7 - TOP)):
            sheet = sheet_of([("point", total), ("tie", (0, sign), least, greatest)])
            for amount in (most, fewest):
                self.assertEqual(sheet.news_if(("shift", 0, amount)), (None, ()))
            for amount in (most + 1, fewest - 1):
                if abs(amount) <= TOP:
                    self.assertEqual(raised(sheet.do_deed, ("shift", 0, amount)), error(Refused, at="size"))

    def test_full_sheets(self):
        sheet = sheet_of([("point", 0)] * 24)
        self.assertEqual(raised(sheet.do_deed, ("point", 0)), error(Refused, at="points"))
        for at in range(48):
            self.assertEqual(sheet.do_deed(("tie", (at % 24, 1), 0, 1)), (at, ()))
        self.assertEqual(raised(sheet.do_deed, ("tie", (0, 1), 0, 1)), error(Refused, at="many"))
        self.assertEqual(raised(sheet.do_deed, ("tie", (24, 1), 0, 1)), error(Refused, at="point"))
        sheet.do_deed(("take tie", 23))
        self.assertEqual(sheet.do_deed(("tie", (0, 1), 0, 1)), (48, ()))
        sheet.do_deed(("take tie", 47))
        sheet.do_deed(("take point", 23))
        self.assertEqual(sheet.do_deed(("point", 0)), (24, ()))
        self.assertEqual(raised(sheet.do_deed, ("point", TOP)), error(Refused, at="points"))

    def test_numbers_come_again_by_undo_alone(self):
        sheet = sheet_of([("point", 0), ("point", 1), ("take point", 1)])
        self.assertEqual(sheet.do_deed(("point", 5))[0], 2)
        sheet.undo_deed()
        self.assertEqual(sheet.do_deed(("point", 6))[0], 2)
        sheet.undo_deed()
        sheet.undo_deed()
        self.assertEqual(sheet.points, ((0, 0), (1, 1)))
        sheet.undo_deed()
        self.assertEqual(sheet.do_deed(("point", 7))[0], 1)
        self.assertIsNone(sheet.redo_deed())
        self.assertEqual(sheet.undo_deed(), (None, ()))
        self.assertEqual(sheet.redo_deed(), (1, ()))
        self.assertEqual(sheet.points, ((0, 0), (1, 7)))


class StretchTest(unittest.TestCase):
    def test_any_value(self):
        sheet = sheet_of(DEEDS)
        sheet.watch(0)
        for value in JUNK + NO_INTEGERS + [-1, 2, 10 ** 30]:
            if type(value) is int and value in (0, 1):
                continue
            for call in (sheet.stretch, sheet.watch, sheet.leave):
                self.assertEqual(raised(call, value), error(Refused, at="tie"), value)
        self.assertEqual(raised(sheet.leave, 1), error(Refused, at="tie"))
        for value in JUNK + NO_INTEGERS + [-1, 1, 4, 10 ** 30]:
            if type(value) is int and value == 0:
                continue
            self.assertEqual(raised(sheet.settled, value), error(Refused, at="point"), value)
            if not (type(value) is int and 0 <= value <= 3):
                self.assertEqual(raised(sheet.stretches_at, value), error(InvalidIndex, at=-1), value)

    def test_nothing_is_left(self):
        sheet = sheet_of([("point", 5), ("tie", (0, 1), 0, 4), ("point", 3), ("point", 0), ("tie", (2, 1), 0, 4)])
        self.assertIsNone(sheet.stretch(0))
        self.assertEqual(sheet.stretch(1), (0, 0))
        self.assertEqual(sheet.lots(), ((0,), (1,), (2,)))
        self.assertEqual(sheet.empty_lots(), ((0,), (1,)))
        self.assertEqual(sheet.verdict(), (((0,), "nothing"), ((1,), "nothing"), ((2,), "exact")))
        self.assertEqual(sheet.stretches_at(5), ((0, None), (1, (0, 0))))
        self.assertEqual((Sheet().lots(), Sheet().empty_lots(), Sheet().verdict()), ((), (), ()))

    def test_rings_so_wide_that_rounds_go_on(self):
        sheet = sheet_of([("point", 0), ("point", 0), ("point", 1), ("tie", (0, 1, 1, -1), -TOP, TOP),
                          ("tie", (1, 1, 2, -1), -TOP, TOP), ("tie", (2, 1, 0, -1), -TOP, TOP)])
        self.assertEqual(sheet.stretches_at(6), ((0, None), (1, None), (2, None)))
        self.assertEqual(sheet.empty_lots(), ((0, 1, 2),))
        sheet.do_deed(("total", 2, 0))
        self.assertEqual(sheet.stretch(2), (-TOP, TOP))

    def test_moments(self):
        sheet, _ = grown(142, 30)
        told = [sheet.stretches_at(at) for at in range(31)]
        self.assertEqual(told[0], ())
        for at in range(31):
            self.assertEqual(dict(told[at]), {row[0]: again.stretch(row[0]) for again in [sheet_of(sheet.deeds[:at])]
                                              for row in again.ties})
        for _ in range(10):
            sheet.undo_deed()
        self.assertEqual([sheet.stretches_at(at) for at in range(21)], told[:21])
        self.assertEqual(raised(sheet.stretches_at, 21), error(InvalidIndex, at=-1))
        sheet.redo_deed()
        self.assertEqual(sheet.stretches_at(21), told[21])

    def test_as_of_a_sheet_made_anew(self):
        """Undone and done again all is as it was; the same deeds on a new sheet tell the same."""
        for seed in range(6):
            sheet, _ = grown(143 + seed, 25)
            before, deeds = seen(sheet), sheet.deeds
            for _ in range(25):
                sheet.undo_deed()
            self.assertEqual((sheet.points, sheet.ties, sheet.deeds, sheet.undo_deed()), ((), (), (), None))
            for _ in range(25):
                sheet.redo_deed()
            self.assertIsNone(sheet.redo_deed())
            self.assertEqual((seen(sheet), sheet.deeds), (before, deeds))
            self.assertEqual(seen(sheet_of(deeds)), before)
            web = sheet.web_now()
            anew = sheet_of([("point", total) for _, total in sheet.points])
            for tie, row in zip(web.ties, sheet.ties):
                anew.do_deed(("tie", tie, row[2], row[3]))
            self.assertEqual([told for _, told in anew.stretches_at(len(anew.deeds))],
                             [sheet.stretch(row[0]) for row in sheet.ties])

    def test_a_deed_changes_no_stretch_of_another_lot(self):
        rng = random.Random(144)
        for seed in range(8):
            sheet, model = grown(145 + seed, 20)
            for _ in range(30):
                deed = random_deed(rng, model, 5)
                if raised(sheet.news_if, deed)[0] is Refused:
                    continue
                before = {row[0]: sheet.stretch(row[0]) for row in sheet.ties}
                lots, ties = sheet.lots(), {row[0]: row[1] for row in sheet.ties}
                number, _ = sheet.do_deed(deed)
                model.do(deed)
                ties.update({row[0]: row[1] for row in sheet.ties})
                own = self.own_points(deed, ties, number)
                near = [point for lot in lots + sheet.lots() if own & set(lot) for point in lot]
                for row in sheet.ties:
                    if row[1][0] not in near:
                        self.assertEqual(sheet.stretch(row[0]), before[row[0]])

    def own_points(self, deed, ties, number):
        if deed[0] == "point":
            return {number}
        if deed[0] in ("total", "turn", "take point"):
            return {deed[1]}
        tie = deed[1] if deed[0] == "tie" else ties[deed[1]]
        return {tie[0], tie[-2]}

    def test_cuts_in_any_order(self):
        rng = random.Random(146)
        seen_cuts = 0
        for seed in range(25):
            sheet, _ = grown(150 + seed, 14, 9)
            base = sheet_text(sheet)
            cuts = []
            for row in sheet.ties * 2:
                inner = sorted(rng.randint(row[2], row[3]) for _ in range(2))
                cuts.append(("cut", row[0], inner[0] - rng.randint(0, 2), inner[1] + rng.randint(0, 2)))
            rows = self.cut_rows(base, cuts)
            if rows is None:
                for _ in range(3):
                    rng.shuffle(cuts)
                    self.assertIsNone(self.cut_rows(base, cuts))
                continue
            seen_cuts += 1
            for _ in range(4):
                more = cuts + rng.sample(cuts, len(cuts) // 2)
                rng.shuffle(more)
                self.assertEqual(self.cut_rows(base, more)[-1], rows[-1])
                for row in self.cut_rows(base, more)[1:]:
                    for (_, old), (_, new) in zip(rows[0], row):
                        self.assertTrue(new is None or old is not None and old[0] <= new[0] <= new[1] <= old[1])
        self.assertGreater(seen_cuts, 5)

    def cut_rows(self, text, cuts):
        """All stretches ahead of the cuts and behind each, None if one is refused."""
        sheet = read_sheet(text)
        found = [sheet.stretches_at(0)]
        for cut in cuts:
            if raised(sheet.do_deed, cut)[0] is Refused:
                return None
            found.append(sheet.stretches_at(len(sheet.deeds)))
        return found

    def test_shift_and_turn(self):
        rng = random.Random(147)
        for seed in range(10):
            sheet, _ = grown(180 + seed, 20)
            for row in sheet.ties:
                before, lots, empty = dict(sheet.stretches_at(len(sheet.deeds))), sheet.lots(), sheet.empty_lots()
                amount = rng.randint(-50, 50)
                sheet.do_deed(("shift", row[0], amount))
                behind = dict(sheet.stretches_at(len(sheet.deeds)))
                moved = before.pop(row[0])
                self.assertEqual(behind.pop(row[0]), None if moved is None else (moved[0] + amount, moved[1] + amount))
                self.assertEqual((before, lots, empty), (behind, sheet.lots(), sheet.empty_lots()))
            before, lots, empty = sheet.stretches_at(len(sheet.deeds)), sheet.lots(), sheet.empty_lots()
            for point, _ in sheet.points:
                sheet.do_deed(("turn", point))
                self.assertEqual((sheet.stretches_at(len(sheet.deeds)), sheet.lots(), sheet.empty_lots()), (before,
                                                                                                            lots,
                                                                                                            empty))


class WatchTest(unittest.TestCase):
    def test_news(self):
        sheet = sheet_of(DEEDS + (("point", 9), ("tie", (1, 1), 0, 9)))
        self.assertEqual([sheet.watch(tie) for tie in (1, 0, 1, 2)], [None] * 4)
        self.assertEqual(sheet.watched, (0, 1, 2))
        self.assertEqual(sheet.do_deed(("total", 0, 12)), (None, ((0, (0, 3), (3, 3)), (1, (2, 5), (9, 9)))))
        self.assertEqual(sheet.do_deed(("total", 0, 13)), (None, ((0, (3, 3), None), (1, (9, 9), None))))
        self.assertEqual(sheet.do_deed(("total", 0, 13)), (None, ()))
        self.assertEqual(sheet.news_if(("take tie", 0)), (None, ((0, None, ()),)))
        self.assertEqual(sheet.watched, (0, 1, 2))
        self.assertEqual(sheet.do_deed(("total", 1, 10)), (None, ((2, (9, 9), None),)))
        self.assertIsNone(sheet.leave(1))
        self.assertEqual(sheet.do_deed(("total", 0, 3)), (None, ((0, None, (0, 3)),)))
        self.assertEqual(raised(sheet.leave, 1), error(Refused, at="tie"))

    def test_who_goes_is_watched_no_more(self):
        sheet = sheet_of(DEEDS)
        sheet.watch(0)
        sheet.watch(1)
        self.assertEqual(sheet.undo_deed(), (None, ((0, (0, 3), None), (1, (2, 5), ()))))
        self.assertEqual(sheet.watched, (0,))
        self.assertEqual(sheet.redo_deed(), (1, ((0, None, (0, 3)),)))
        self.assertEqual(sheet.watched, (0,))
        self.assertEqual(sheet.do_deed(("take tie", 0)), (None, ((0, (0, 3), ()),)))
        self.assertEqual(sheet.watched, ())
        self.assertEqual(sheet.undo_deed(), (None, ()))
        self.assertEqual(sheet.watched, ())
        self.assertEqual(raised(sheet.leave, 0), error(Refused, at="tie"))

    def test_watching_is_no_deed(self):
        sheet = sheet_of(DEEDS)
        sheet.undo_deed()
        sheet.watch(0)
        self.assertEqual(sheet.deeds, DEEDS[:2])
        self.assertEqual(sheet.redo_deed()[0], 1)
        sheet.undo_deed()
        sheet.leave(0)
        self.assertEqual(raised(sheet.do_deed, ("take tie", 9)), error(Refused, at="tie"))
        self.assertEqual(sheet.redo_deed(), (1, ()))
        sheet.undo_deed()
        sheet.news_if(("point", 1))
        self.assertEqual(sheet.redo_deed(), (1, ()))
        sheet.undo_deed()
        sheet.do_deed(("total", 0, 5))
        self.assertIsNone(sheet.redo_deed())


class VerdictTest(unittest.TestCase):
    def lot(self, ties, points, loose=()):
        deeds = [("point", 0)] * points + [("tie", tie, -1, 1) for tie in ties] + [("tie", (at, 1), -1,
                                                                                    1) for at in loose]
        return sheet_of(deeds).verdict()

    def test_each_word(self):
        even = [(0, 1, 1, -1), (0, 1, 1, -1)]
        self.assertEqual(self.lot([], 1), (((0,), "exact"),))
        self.assertEqual(self.lot(even, 2), (((0, 1), "exact"),))
        self.assertEqual(self.lot(even, 2, [1]), (((0, 1), "whole"),))
        self.assertEqual(self.lot(even[:1], 3, [1, 2]), (((0, 1), "exact"), ((2,), "exact")))
        self.assertEqual(self.lot([(0, 1, 1, 1), (0, 1, 1, -1)], 2), (((0, 1), "some"),))
        self.assertEqual(self.lot(even + [(1, 1, 0, 1)], 2), (((0, 1), "some"),))
        self.assertEqual(self.lot(even * 2, 2), (((0, 1), "open"),))
        sheet = sheet_of([("point", 4), ("point", -2), *[("tie", (0, 1, 1, -1), 0, 2)] * 3])
        self.assertEqual(sheet.verdict(), (((0, 1), "open"),))
        sheet.do_deed(("total", 0, 7))
        self.assertEqual(sheet.verdict(), (((0, 1), "nothing"),))

    def test_no_word_but_open_is_wrong(self):
        words = {}
        for seed in range(200):
            sheet, model = filled(200 + seed, 4, 6)
            for lot, word in sheet.verdict():
                words[word] = words.get(word, 0) + 1
                web, box, names = model.part(lot)
                self.assertEqual(word == "nothing", lot in sheet.empty_lots())
                if word != "nothing":
                    told = "exact" if court3(web) else "whole" if court2(web) else "some" if court1(web) else "open"
                    self.assertEqual(word, told)
                if len(names) > 5:
                    continue
                rows = half_rows(web, box)
                if word in ("exact", "whole", "some"):
                    self.assertTrue(rows)
                if word in ("exact", "whole"):
                    self.assertTrue([row for row in rows if all(x % 2 == 0 for x in row)])
                if word == "exact":
                    for at, name in enumerate(names):
                        least, greatest = sheet.stretch(name)
                        whole = {row[at] for row in rows if all(x % 2 == 0 for x in row)}
                        self.assertLessEqual({2 * x for x in range(least, greatest + 1)}, whole)
        self.assertTrue(all(words.get(word, 0) > 2 for word in ("nothing", "exact", "whole", "some", "open")), words)

    def test_of_an_open_lot_nobody_can_tell_more(self):
        many = 0
        for seed in range(40):
            sheet, model = filled(300 + seed, 5, 9)
            for lot, word in sheet.verdict():
                if word == "open":
                    many += 1
                    web, _, names = model.part(lot)
                    box = built_box(web, court1_paper(web))
                    for name, (least, greatest) in zip(names, box.bounds):
                        sheet.do_deed(("bounds", name, least, greatest))
                    for point, total in zip(lot, box.totals):
                        sheet.do_deed(("total", point, total))
                    self.assertIn((lot, "open"), sheet.verdict())
                    self.assertEqual(sheet.settled(lot[0])[0], "signs")
        self.assertGreater(many, 5)

    def test_settled(self):
        seen_words = {"filling": 0, "signs": 0}
        for seed in range(40):
            sheet, model = filled(400 + seed, 5, 7)
            for lot in sheet.lots():
                web, box, names = model.part(lot)
                for point in lot:
                    word, rows = sheet.settled(point)
                    seen_words[word] += 1
                    if word == "filling":
                        self.assertEqual([tie for tie, _ in rows], names)
                        self.assertTrue(fills_by_hand(web, box, tuple(x for _, x in rows)))
                    else:
                        self.assertTrue(rows and all(sign in (1, -1) for _, sign in rows))
                        self.assertEqual([at for at, _ in rows], sorted(at for at, _ in rows))
                        self.assertTrue(shows_by_hand(web, box, tuple(dict(rows).get(at, 0) for at in lot)))
        self.assertGreater(min(seen_words.values()), 20)
        sheet = sheet_of([("point", 0), ("point", 7), ("point", -7)])
        self.assertEqual([sheet.settled(point) for point in range(3)],
                         [("filling", ()), ("signs", ((1, 1),)), ("signs", ((2, -1),))])

    def test_great_sheets(self):
        rng = random.Random(148)
        for wide in (3, TOP // 100):
            sheet, numbers = Sheet(), []
            for _ in range(16):
                sheet.do_deed(("point", 0))
            for _ in range(48):
                one, other = rng.sample(range(16), 2)
                numbers.append(rng.randint(-wide, wide))
                sheet.do_deed(("tie", (one, rng.choice((1, -1)), other, rng.choice((1, -1))), numbers[-1] - wide,
                               numbers[-1] + wide))
            for point, total in enumerate(totals_of(sheet.web_now(), numbers)):
                sheet.do_deed(("total", point, total))
            for tie in range(48):
                sheet.watch(tie)
            word, rows = sheet.settled(0)
            self.assertEqual(word, "filling")
            self.assertTrue(fills_by_hand(sheet.web_now(), sheet.box_now(), tuple(x for _, x in rows)))
            for _ in range(30):
                sheet.do_deed(("cut", rng.randrange(48), -2 * wide, 2 * wide))
                sheet.do_deed(("total", rng.randrange(16), rng.randint(-wide, wide)))
            self.assertEqual(len(sheet.stretches_at(len(sheet.deeds))), 48)
            for _ in range(60):
                sheet.undo_deed()
            self.assertEqual(sheet.settled(5)[0], "filling")


class TextTest(unittest.TestCase):
    def test_by_hand(self):
        sheet = sheet_of([("point", 5), ("point", -1), ("point", 2), ("take point", 1), ("tie", (2, 1, 0, -1), -3, TOP),
                          ("tie", (0, 1), 0, 0), ("take tie", 1), ("tie", (2, -1), 1, 2)])
        text = "sheet 3 3\npoint 0 5\npoint 2 2\ntie 0 0 - 2 + -3 1000000000000000000\ntie 2 2 - 1 2"
        self.assertEqual(sheet_text(sheet), text)
        self.assertEqual(seen(read_sheet(text)), seen(sheet))
        self.assertEqual(sheet_text(Sheet()), "sheet 0 0")
        self.assertEqual((read_sheet("sheet 0 0").points, read_sheet("sheet 7 9").do_deed(("point", 1))), ((), (7, ())))

    def test_there_and_back(self):
        """From then on a sheet that was read tells as the written one does."""
        rng = random.Random(149)
        for seed in range(12):
            sheet, model = grown(500 + seed, 20)
            again = read_sheet(sheet_text(sheet))
            self.assertEqual((again.deeds, again.watched, again.undo_deed(), again.redo_deed()), ((), (), None, None))
            self.assertEqual(again.stretches_at(0), sheet.stretches_at(20))
            for _ in range(15):
                deed = random_deed(rng, model, 5)
                self.assertEqual(raised(again.do_deed, deed), raised(sheet.do_deed, deed))
                raised(model.do, deed)
                self.assertEqual(seen(again), seen(sheet))
            for _ in range(len(again.deeds)):
                again.undo_deed()
                sheet.undo_deed()
            self.assertEqual(seen(again), seen(sheet))
            self.assertIsNone(again.undo_deed())

    def test_long_numbers(self):
        text = "sheet " + "9" * 40 + " 8\npoint " + "9" * 39 + "8 0\ntie 7 " + "9" * 39 + "8 + 0 0"
        sheet = read_sheet(text)
        self.assertEqual(sheet_text(sheet), text)
        self.assertEqual(sheet.do_deed(("point", 1))[0], 10 ** 40 - 1)
        self.assertEqual(raised(read_sheet, sheet_text(sheet)), error(InvalidText, at=0))

    def test_one_text_for_each_sheet(self):
        for seed in range(8):
            sheet, _ = grown(600 + seed, 9, 3)
            text = sheet_text(sheet)
            for near in near_texts(text):
                told = raised(read_sheet, near)
                self.assertTrue(told[0] is InvalidText if isinstance(told, tuple) else sheet_text(told) == near, near)

    def test_first_wrong_row(self):
        fit = ["sheet 5 4", "point 1 7", "point 3 -7", "tie 0 1 + 3 - 0 9", "tie 2 3 + 0 9"]
        self.assertEqual(sheet_text(read_sheet("\n".join(fit))), "\n".join(fit))
        wrong = {0: ["sheet", "sheet 5", "sheet 5 4 0", "Sheet 5 4", "sheet  5 4", "sheet 5 4 ", "", "web 2",
                     "sheet -1 4",
                     "sheet 5 -1"] + [f"sheet {word} 4" for word in NO_NUMBERS] + [f"sheet 5 {word}" for word in NO_NUMBERS],
                 2: ["point", "point 3", "point 3 1 1", "", "point  3 1", "point 1 0", "point 0 0", "point 5 0",
                     "point 9 0",
                     f"point 3 {TOP + 1}", f"point 3 {-TOP - 1}", "Point 3 0", "point -3 0", "3 0"],
                 4: ["tie", "tie 2", "tie 2 3 + 0", "tie 2 3 + 9 0", "tie 2 0 + 0 9", "tie 2 3 + 1 - 0 9",
                     "tie 2 3 + 3 - 0 9",
                     "tie 2 1 + 5 - 0 9", "tie 0 3 + 0 9", "tie 4 3 + 0 9", "tie -2 3 + 0 9", "tie 2 3 + 0 9 ", "",
                     "point 4 0",
                     "tie 2 3 * 0 9", f"tie 2 3 + 0 {TOP + 1}", f"tie 2 3 + {-TOP - 1} 0", "tie 2 3 + 0 0 9",
                     "tie 2 1 + 3 0 9",
                     "tie 2 4 + 0 9", "tie 3 + 0 9", "tie 2 + 0 9", "sheet 5 4"]}
        wrong[2] += [f"point {word} 0" for word in NO_NUMBERS] + [f"point 3 {word}" for word in NO_NUMBERS]
        for start in ("tie {} 3 + 0 9", "tie 2 {} + 0 9", "tie 2 1 + {} + 0 9", "tie 2 3 + {} 9", "tie 2 3 + -9 {}"):
            wrong[4] += [start.format(word) for word in NO_NUMBERS]
        for at, row in [(at, row) for at, rows in wrong.items() for row in rows]:
            text = "\n".join(fit[:at] + [row] + ["?"] * 2)
            self.assertEqual(raised(read_sheet, text), error(InvalidText, at=at), row)
        for more in (3, 2):
            text = "\n".join(fit[:3] + [f"point {more} 0"])
            self.assertEqual(raised(read_sheet, text), error(InvalidText, at=3))
            text = "\n".join(["sheet 5 9"] + fit[1:] + [f"tie {more - 1} 3 + 0 9"])
            self.assertEqual(raised(read_sheet, text), error(InvalidText, at=5))
        self.assertEqual(len(read_sheet("\n".join(["sheet 5 9"] + fit[1:] + ["tie 3 3 + 0 9"])).ties), 3)

    def test_too_much(self):
        full = ["sheet 24 48"] + [f"point {at} 0" for at in range(24)] + [f"tie {at} 0 + 0 1" for at in range(48)]
        self.assertEqual(len(read_sheet("\n".join(full)).ties), 48)
        more = ["sheet 25 49"] + full[1:25] + ["point 24 0"] + full[25:]
        self.assertEqual(raised(read_sheet, "\n".join(more)), error(InvalidText, at=25))
        more = ["sheet 25 49"] + full[1:] + ["tie 48 0 + 0 1", "x"]
        self.assertEqual(raised(read_sheet, "\n".join(more)), error(InvalidText, at=73))

    def test_errors(self):
        for value in JUNK + [Sheet, "sheet 0 0"]:
            if not isinstance(value, Sheet):
                self.assertEqual(raised(sheet_text, value), error(InvalidSheet, at=-1))
        for value in NO_TEXTS + [Sheet()]:
            self.assertEqual(raised(read_sheet, value), error(InvalidText, at=-1))
        for thing in (Sheet(), sheet_of(DEEDS)):
            self.assertRaises(TypeError, iter, thing)
            self.assertRaises(TypeError, len, thing)


if __name__ == "__main__":
    unittest.main()
