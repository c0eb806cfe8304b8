"""A desk: a sheet to which deeds and questions are said in words."""

from pushtells.errors import InvalidCommand
from pushtells.marks import SIDES
from pushtells.reasons import held_by, room_of, why_nothing
from pushtells.sheet import Sheet, read_sheet, sheet_text
from pushtells.stretches import all_stretches
from pushtells.words import told_integer, told_number, told_tie

DEED_FORMS = {
    "point": ("integer",),
    "bounds": ("number", "integer", "integer"),
    "cut": ("number", "integer", "integer"),
    "total": ("number", "integer"),
    "shift": ("number", "integer"),
    "turn": ("number",),
}
DROPS = {"tie": "take tie", "point": "take point"}
ASKING = ("show", "watch", "leave", "verdict", "held", "why", "room", "text", "undo", "redo")


class Desk:
    def __init__(self):
        self.sheet = Sheet()

    def say(self, command):
        """Do what a string says, and tell what is shown."""
        if not isinstance(command, str):
            raise InvalidCommand()
        if command.startswith("open "):
            self.sheet = read_sheet(command[len("open "):].replace(" ; ", "\n"))
            return "done"
        words = command.split(" ")
        deed = said_deed(words)
        if deed is not None:
            return shown_news(self.sheet.do_deed(deed))
        deed = said_deed(words[1:]) if words[0] == "if" else None
        if deed is not None:
            return shown_news(self.sheet.news_if(deed))
        return answered(self.sheet, words)


def said_deed(words):
    """The deed that words have the form of, or None."""
    if words[:1] == ["tie"]:
        tie, numbers = told_tie(words[1:-2]), [told_integer(word) for word in words[-2:]]
        return None if tie is None or None in numbers else ("tie", tie, numbers[0], numbers[1])
    if words[:1] == ["drop"] and len(words) == 3 and words[1] in DROPS:
        number = told_number(words[2])
        return None if number is None else (DROPS[words[1]], number)
    forms = DEED_FORMS.get(words[0]) if words else None
    if forms is None or len(forms) != len(words) - 1:
        return None
    parts = [told_integer(word) if form == "integer" else told_number(word) for form, word in zip(forms, words[1:])]
    return None if None in parts else (words[0], *parts)


def word_form(word):
    """What a word of a question is: itself, an end, a number, or none of these."""
    if word in ASKING:
        return word
    if word in SIDES:
        return "END"
    return "?" if told_number(word) is None else "NUMBER"


def shown(rows):
    """What is told, one thing behind another."""
    return ", ".join(rows) if rows else "none"


def shown_stretch(stretch):
    """A stretch in words."""
    if stretch is None:
        return "nothing"
    return f"{stretch[0]} {stretch[1]}" if stretch else "gone"


def shown_news(told):
    """The number that came, and the news, in words."""
    if told is None:
        return "no"
    number, news = told
    rows = [] if number is None else [str(number)]
    return shown(rows + [f"{tie}: {shown_stretch(old)} > {shown_stretch(new)}" for tie, old, new in news])


def shown_marks(marks):
    """Marks in words."""
    return shown([f"{word} {number}" for word, number in marks])


def answered(sheet, words):
    """What is shown of a question, or of what is no deed."""
    form = " ".join([word_form(word) for word in words])
    numbers = [told_number(word) for word in words]
    if form == "undo":
        return shown_news(sheet.undo_deed())
    if form == "redo":
        return shown_news(sheet.redo_deed())
    if form == "show":
        rows = all_stretches(sheet.points, sheet.ties)
        return shown([f"{tie}: {shown_stretch(stretch)}" for tie, stretch in rows])
    if form == "show NUMBER":
        return shown_stretch(sheet.stretch(numbers[1]))
    if form == "watch NUMBER":
        sheet.watch(numbers[1])
        return "done"
    if form == "leave NUMBER":
        sheet.leave(numbers[1])
        return "done"
    if form == "verdict":
        return shown([f"{shown_lot(lot)}: {word}" for lot, word in sheet.verdict()])
    if form == "held NUMBER END":
        return shown_marks(held_by(sheet, numbers[1], SIDES[words[2]]))
    if form == "why NUMBER":
        return shown_marks(why_nothing(sheet, numbers[1]))
    if form == "room NUMBER END NUMBER END":
        return str(room_of(sheet, (words[2], numbers[1]), numbers[3], SIDES[words[4]]))
    if form == "text":
        return sheet_text(sheet).replace("\n", " ; ")
    raise InvalidCommand()


def shown_lot(lot):
    """The points of a lot in words."""
    return " ".join([str(point) for point in lot])
