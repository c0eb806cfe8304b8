"""[77]: the desk."""

import random
import unittest

from pushtells.desk import Desk
from pushtells.errors import InvalidCommand, InvalidDeed, InvalidText, PushError, Refused
from pushtells.reasons import held_by, room_of, why_nothing
from pushtells.sheet import Sheet, sheet_text
from tests.helpers import JUNK, error, raised
from tests.models import TOP, Model, random_deed
from tests.test_texts import NO_NUMBERS

SIGNS = {1: "+", -1: "-"}
SIDES = {"least": -1, "greatest": 1}


def said(deed):
    """A deed as a command."""
    word, rest = deed[0], list(deed[1:])
    if word == "tie":
        tie = [str(part) if at % 2 == 0 else SIGNS[part] for at, part in enumerate(rest[0])]
        return " ".join(["tie"] + tie + [str(x) for x in rest[1:]])
    word = {"take tie": "drop tie", "take point": "drop point"}.get(word, word)
    return " ".join([word] + [str(x) for x in rest])


def stretch_shown(stretch):
    return "nothing" if stretch is None else "gone" if stretch == () else f"{stretch[0]} {stretch[1]}"


def news_shown(told):
    if told is None:
        return "no"
    rows = [str(told[0])] * (told[0] is not None)
    rows += [f"{tie}: {stretch_shown(one)} > {stretch_shown(other)}" for tie, one, other in told[1]]
    return ", ".join(rows) or "none"


def marks_shown(marks):
    return ", ".join(f"{word} {number}" for word, number in marks) or "none"


def talk(desk, *commands):
    return [desk.say(command) for command in commands]


def answers(sheet):
    """{question: what is to be shown} about a sheet."""
    told = {"show": ", ".join(f"{tie}: {stretch_shown(sheet.stretch(tie))}" for tie, *_ in sheet.ties) or "none",
            "verdict": ", ".join(" ".join(map(str, lot)) + ": " + word for lot, word in sheet.verdict()) or "none",
            "text": sheet_text(sheet).replace("\n", " ; ")}
    for tie in [row[0] for row in sheet.ties] + [99]:
        told[f"show {tie}"] = shown(lambda: stretch_shown(sheet.stretch(tie)))
        for word, side in SIDES.items():
            told[f"held {tie} {word}"] = shown(lambda: marks_shown(held_by(sheet, tie, side)))
            for other, own in (("least", 0), ("greatest", 0), ("least", tie)):
                told[f"room {own} {other} {tie} {word}"] = shown(lambda: str(room_of(sheet, (other, own), tie, side)))
    for point in [point for point, _ in sheet.points] + [99]:
        told[f"why {point}"] = shown(lambda: marks_shown(why_nothing(sheet, point)))
    return told


def shown(call):
    try:
        return call()
    except PushError as error:
        return type(error), vars(error)


class DeskTest(unittest.TestCase):
    def test_by_hand(self):
        desk = Desk()
        self.assertEqual((type(desk.sheet), desk.sheet.points), (Sheet, ()))
        self.assertEqual(talk(desk, "point 5", "tie 0 + 0 3", "tie 0 + 0 9", "show", "held 1 greatest",
                              "room 0 least 1 greatest"),
                         ["0", "0", "1", "0: 0 3, 1: 2 5", "least 0, total 0", "0"])
        self.assertEqual(talk(desk, "watch 1", "if cut 0 1 2", "cut 0 1 2", "show 1", "undo", "undo", "show", "redo"),
                         ["done", "1: 2 5 > 3 4", "1: 2 5 > 3 4", "3 4", "1: 3 4 > 2 5", "1: 2 5 > gone", "0: nothing",
                          "1"])
        self.assertEqual(talk(desk, "watch 0", "total 0 99", "verdict", "why 0", "drop tie 0", "undo", "redo"),
                         ["done", "0: 0 3 > nothing", "0: nothing", "greatest 0, greatest 1, total 0",
                          "0: nothing > gone",
                          "none", "none"])

    def test_each_command(self):
        desk = Desk()
        self.assertEqual(talk(desk, "show", "verdict", "undo", "redo", "text"), ["none", "none", "no", "no",
                                                                                 "sheet 0 0"])
        self.assertEqual(talk(desk, "point 1", "point -2", "point 0", "tie 1 - 0 + -5 5", "tie 2 - 0 4"), ["0", "1",
                                                                                                           "2", "0",
                                                                                                           "1"])
        self.assertEqual(desk.sheet.deeds[3], ("tie", (1, -1, 0, 1), -5, 5))
        self.assertEqual(talk(desk, "verdict", "bounds 0 -9 9", "cut 0 -8 20", "total 1 -1", "show 0", "turn 1",
                              "shift 1 3", "text"),
                         ["0 1: nothing, 2: exact", "none", "none", "none", "1 1", "none", "none",
                          "sheet 3 2 ; point 0 1 ; point 1 1 ; point 2 -3 ; tie 0 0 + 1 + -8 9 ; tie 1 2 - 3 7"])
        self.assertEqual(talk(desk, "watch 0", "watch 1", "if drop tie 0", "drop tie 0", "drop point 1", "show",
                              "leave 1"),
                         ["done", "done", "0: 1 1 > gone", "0: 1 1 > gone", "none", "1: 3 3", "done"])
        self.assertEqual(talk(desk, "if point 4", "point 4", "if tie 3 + 0 0", "verdict"), ["3", "3", "2",
                                                                                            "0: nothing, 2: exact, 3: nothing"])
        self.assertEqual(talk(desk, "open " + desk.say("text"), "undo", "text"),
                         ["done", "no", "sheet 4 2 ; point 0 1 ; point 2 -3 ; point 3 4 ; tie 1 2 - 3 7"])
        self.assertEqual(talk(desk, "open sheet 1 0\npoint 0 7", "text", "open sheet 2 0 ; point 0 7\npoint 1 8",
                              "show", "verdict"),
                         ["done", "sheet 1 0 ; point 0 7", "done", "none", "0: nothing, 1: nothing"])

    def test_what_is_opened_and_what_is_not(self):
        desk = Desk()
        talk(desk, "point 5", "tie 0 + 0 3")
        sheet = desk.sheet
        for text, at in (("", 0), ("x", 0), ("sheet 0 0 ;", 0), ("sheet 0 0 ; ", 1), ("sheet 0 0 ;  ; ", 1),
                         ("sheet 0 0 ; ; ", 1),
                         ("sheet 1 0 ; point 0 1 ; point 0 1", 2), (" sheet 0 0", 0), ("sheet 0 0 \n", 0),
                         ("sheet 0 0; point 0 0", 0)):
            self.assertEqual(raised(desk.say, "open " + text), error(InvalidText, at=at), text)
        self.assertIs(desk.sheet, sheet)
        self.assertEqual(desk.say("text"), "sheet 1 1 ; point 0 5 ; tie 0 0 + 0 3")

    def test_no_commands(self):
        desk = Desk()
        talk(desk, "point 5", "tie 0 + 0 3", "tie 0 + 0 9", "undo")
        before = (answers(desk.sheet), desk.sheet.deeds)
        wrong = [value for value in JUNK] + [
            "open", "Open sheet 0 0", " open sheet 0 0", "show ", " show", "show  0", "show 0 ", "show 0 1", "Show",
            "show\n", "show -1",
            "show +0", "undo 1", "undo ", "redo redo", "if", "if ", "if undo", "if show", "if if point 1",
            "if  point 1", "If point 1",
            "if open sheet 0 0", "if watch 0", "point", "point ", "point 1 2", "point  1", "points 1", "tie", "tie 0",
            "tie 0 +",
            "tie 0 + 1", "tie 0 + 1 2 3", "tie 0 + 1 + 2", "tie + 0 1 2", "tie 0 * 1 2", "tie 0 1 2", "tie -1 + 0 1",
            "tie 0 + 1 + 2 + 3 4",
            "bounds 0 1", "bounds 0 1 2 3", "bounds -1 0 1", "cut 0", "cut", "cut -1 0 1", "total 0", "total -1 0",
            "shift 0", "shift -1 1",
            "turn", "turn -1", "turn 0 0", "drop", "drop 0", "drop tie", "drop tie 0 0", "drop lot 0", "drop tie -1",
            "drop point -1",
            "take tie 0", "watch", "watch -1", "watch 0 1", "leave", "verdict 0", "held", "held 0", "held least",
            "held 0 Least",
            "held least 0", "held 0 least 1", "why", "why -1", "why 0 0", "room", "room 0 least 0",
            "room 0 least 0 most", "room least 0 0 least",
            "room 0 least 0 least 0", "room -1 least 0 least", "text 0", "NUMBER", "show NUMBER", "show END",
            "held NUMBER END", "?", "",
            " ", "\n", "show;", "sheet 1 0", "redo\t", b"show", ["show"], ("show",)]
        for word in NO_NUMBERS:
            wrong += [f"point {word}", f"show {word}", f"tie 0 + {word} 1", f"tie 0 + 0 {word}", f"tie {word} + 0 1",
                      f"cut 0 {word} 1",
                      f"drop tie {word}", f"shift 0 {word}", f"held {word} least", f"room {word} least 0 least",
                      f"if turn {word}"]
        for value in wrong:
            self.assertEqual(raised(desk.say, value), error(InvalidCommand), value)
        self.assertEqual((answers(desk.sheet), desk.sheet.deeds), before)
        self.assertEqual(desk.say("redo"), "1")

    def test_forms_of_deeds_that_are_none(self):
        desk = Desk()
        talk(desk, "point 5", "point 5", "tie 0 + 0 3")
        before = (answers(desk.sheet), desk.sheet.deeds)
        for command in (f"point {TOP + 1}", f"point {-TOP - 1}", "tie 0 + 3 2", "tie 0 + 0 - 1 2", "tie 7 + 7 - 1 2",
                        f"tie 0 + 0 {TOP + 1}",
                        "bounds 0 3 2", "bounds 9 3 2", "cut 0 1 0", f"total 0 {10 ** 39}", f"shift 0 {TOP + 1}",
                        "point " + "9" * 40):
            for ahead in ("", "if "):
                self.assertEqual(raised(desk.say, ahead + command), error(InvalidDeed, at=-1), command)
        for command, word in (("bounds 9 3 4", "tie"), ("turn 2", "point"), ("cut 0 4 5", "cut"), ("drop point 0",
                                                                                                   "ties"),
                              (f"shift 0 {TOP}", "size"), ("tie 0 + 2 - 1 2", "point"), ("drop tie " + "9" * 40,
                                                                                         "tie")):
            for ahead in ("", "if "):
                self.assertEqual(raised(desk.say, ahead + command), error(Refused, at=word), command)
        for command, word in (("watch 1", "tie"), ("leave 0", "tie"), ("show 1", "tie"), ("held 1 least", "tie"),
                              ("why 2", "point"),
                              ("held 0 least", "nothing"), ("room 0 least 0 least", "nothing")):
            self.assertEqual(raised(desk.say, command), error(Refused, at=word), command)
        self.assertEqual((answers(desk.sheet), desk.sheet.deeds), before)

    def test_talks(self):
        """Against the model; all that is shown is as of a new desk with the deeds that stand."""
        rng = random.Random(171)
        for _ in range(14):
            desk, model = Desk(), Model()
            for _ in range(60):
                step = rng.random()
                if step < 0.7:
                    deed = random_deed(rng, model, 6)
                    asked = shown(lambda: desk.say("if " + said(deed)))
                    due = shown(lambda: news_shown(model.do(deed)))
                    self.assertEqual((asked, shown(lambda: desk.say(said(deed)))), (due, due))
                elif step < 0.8:
                    self.assertEqual(desk.say("undo"), news_shown(model.undo()))
                elif step < 0.88:
                    self.assertEqual(desk.say("redo"), news_shown(model.redo()))
                else:
                    tie, word = rng.randint(0, 7), rng.choice(("watch", "watch", "leave"))
                    due = shown(lambda: getattr(model, word)(tie) or "done")
                    self.assertEqual(shown(lambda: desk.say(f"{word} {tie}")), due)
            self.assertEqual(desk.sheet.deeds, tuple(model.deeds))
            again = Desk()
            for deed in model.deeds:
                again.say(said(deed))
            for tie in model.watched:
                again.say(f"watch {tie}")
            due = answers(desk.sheet)
            for each in (desk, again):
                self.assertEqual({question: shown(lambda: each.say(question)) for question in due}, due)
            for _ in range(5):
                deed = random_deed(rng, model, 6)
                self.assertEqual(shown(lambda: again.say("if " + said(deed))),
                                 shown(lambda: desk.say("if " + said(deed))))

    def test_opened_again(self):
        rng = random.Random(172)
        for _ in range(6):
            desk, model = Desk(), Model()
            while len(desk.sheet.deeds) < 25:
                deed = random_deed(rng, model, 6)
                if raised(model.do, deed)[0] is not Refused:
                    desk.say(said(deed))
            again = Desk()
            self.assertEqual(again.say("open " + desk.say("text")), "done")
            self.assertEqual(answers(again.sheet), answers(desk.sheet))
            self.assertEqual(again.say("undo"), "no")
            self.assertEqual(talk(again, "point 3", "undo", "redo")[1:], ["none", str(again.sheet.points[-1][0])])

    def test_great_desks(self):
        rng = random.Random(173)
        desk = Desk()
        for _ in range(24):
            desk.say("point 0")
        for at in range(48):
            one, other = rng.sample(range(24), 2)
            told = desk.say(f"tie {one} {rng.choice('+-')} {other} {rng.choice('+-')} {-TOP} {TOP // (at + 1)}")
            self.assertEqual(told.split(", ")[0], str(at))
            self.assertEqual(desk.say(f"watch {at}"), "done")
        for at in range(24):
            desk.say(f"total {at} {rng.randint(-9, 9)}")
        self.assertEqual(len(desk.say("show").split(", ")), 48)
        for command in ("held 3 least", "room 4 greatest 5 least", "room 4 least 5 greatest", "verdict"):
            self.assertIs(type(desk.say(command)), str)
        self.assertEqual(raised(desk.say, "point 1"), error(Refused, at="points"))
        self.assertEqual(raised(desk.say, "tie 0 + 1 2"), error(Refused, at="many"))

    def test_a_desk_is_not_gone_over(self):
        self.assertRaises(TypeError, iter, Desk())
        self.assertRaises(TypeError, len, Desk())


if __name__ == "__main__":
    unittest.main()
