"""A live sheet: points and ties that come and go, what is left of the ties, and whom that concerns."""

from pushtells.checks import is_below
from pushtells.courts import court2, court3
from pushtells.errors import InvalidIndex, InvalidSheet, InvalidText, Refused
from pushtells.fillings import fill_paper
from pushtells.pieces import court1
from pushtells.stands import MOST_SHEET_POINTS, MOST_SHEET_TIES, Stand, done, is_amount, is_number, number_that_came
from pushtells.stands import told_deed
from pushtells.stretches import all_stretches, is_empty_lot, lot_with, lots_of, part_at, part_stretches, part_with
from pushtells.stretches import whole_part
from pushtells.tighten import tightened
from pushtells.words import ordered_words, text_rows, tie_text, told_integer, told_number


class Sheet:
    def __init__(self):
        self.points = ()
        self.ties = ()
        self.deeds = ()
        self.watched = ()
        # The last one is as it is now; each one ahead of it is as it was ahead of one deed more.
        self.stands = (Stand((), (), 0, 0),)
        self.undone = ()

    def do_deed(self, deed):
        """Do a deed; the number that came, and the news."""
        told = told_deed(deed)
        before = self.stands[-1]
        behind = done(before, told)
        news = news_between(before, behind, self.watched)
        self.undone = ()
        go_on(self, told, behind)
        return number_that_came(before, told), news

    def news_if(self, deed):
        """What doing a deed would return."""
        told = told_deed(deed)
        before = self.stands[-1]
        return number_that_came(before, told), news_between(before, done(before, told), self.watched)

    def undo_deed(self):
        """Take back the last deed that stands."""
        if not self.deeds:
            return None
        before, behind = self.stands[-1], self.stands[-2]
        news = news_between(before, behind, self.watched)
        self.undone = self.undone + ((self.deeds[-1], before),)
        self.stands = self.stands[:-1]
        self.deeds = self.deeds[:-1]
        show_last(self)
        return None, news

    def redo_deed(self):
        """Do again the deed that was taken back last."""
        if not self.undone:
            return None
        before = self.stands[-1]
        deed, behind = self.undone[-1]
        news = news_between(before, behind, self.watched)
        self.undone = self.undone[:-1]
        go_on(self, deed, behind)
        return number_that_came(before, deed), news

    def stretch(self, tie):
        """What is left of a tie, or None."""
        check_there(self, tie)
        stretches = part_stretches(part_with(self.points, self.ties, tie))
        return [told for number, told in stretches if number == tie][0]

    def empty_lots(self):
        """The lots of which nothing is left."""
        return tuple([lot for lot in self.lots() if is_empty_lot(self.points, self.ties, lot)])

    def lots(self):
        """The lots of points that hang together."""
        return lots_of(self.points, self.ties)

    def web_now(self):
        """The web of what is there."""
        check_points_there(self)
        return whole_part(self.points, self.ties)[0]

    def box_now(self):
        """The box of what is there."""
        check_points_there(self)
        return whole_part(self.points, self.ties)[1]

    def watch(self, tie):
        """Tell of a tie in the news from now on."""
        check_there(self, tie)
        if tie not in self.watched:
            self.watched = tuple(sorted(self.watched + (tie,)))

    def leave(self, tie):
        """Tell of a tie no more."""
        if not is_number(tie) or tie not in self.watched:
            raise Refused("tie")
        self.watched = tuple([number for number in self.watched if number != tie])

    def stretches_at(self, number):
        """(tie, stretch) of all ties as they were behind so many of the deeds that stand."""
        if not is_below(number, len(self.stands)):
            raise InvalidIndex(-1)
        stand = self.stands[number]
        return all_stretches(stand.points, stand.ties)

    def verdict(self):
        """(points, word) of each lot: how far what is left of it may be trusted."""
        return tuple([(lot, lot_word(part_at(self.points, self.ties, lot))) for lot in self.lots()])

    def settled(self, point):
        """A filling of the lot with a point, or signs that show that there is none."""
        if not is_number(point) or point not in [number for number, _ in self.points]:
            raise Refused("point")
        lot = lot_with(self.points, self.ties, point)
        web, box, numbers = part_at(self.points, self.ties, lot)
        word, row = fill_paper(web, box)
        if word == "filling":
            return word, tuple(list(zip(numbers, row)))
        return word, tuple([(told, sign) for told, sign in zip(lot, row) if sign != 0])


def show_last(sheet):
    """Tell of what is there now; who has gone is watched no more."""
    sheet.points = sheet.stands[-1].points
    sheet.ties = sheet.stands[-1].ties
    there = {row[0]: True for row in sheet.ties}
    sheet.watched = tuple([tie for tie in sheet.watched if tie in there])


def go_on(sheet, deed, stand):
    """What a deed makes of the sheet."""
    sheet.deeds = sheet.deeds + (deed,)
    sheet.stands = sheet.stands + (stand,)
    show_last(sheet)


def check_there(sheet, tie):
    if not is_number(tie) or tie not in [row[0] for row in sheet.ties]:
        raise Refused("tie")


def check_points_there(sheet):
    if not sheet.points:
        raise Refused("points")


def news_between(before, behind, watched):
    """(tie, before, behind) of the watched ties whose stretch is another one."""
    if not watched:
        return ()
    old, new = stretches_by_tie(before), stretches_by_tie(behind)
    rows = [(tie, old[tie], new.get(tie, ())) for tie in watched]
    return tuple([row for row in rows if row[1] != row[2]])


def stretches_by_tie(stand):
    """{tie: stretch} of all ties of a moment."""
    return {tie: stretch for tie, stretch in all_stretches(stand.points, stand.ties)}


def lot_word(part):
    """How far what is left of a lot may be trusted."""
    web, box, _ = part
    if tightened(web, box) is None:
        return "nothing"
    if court3(web):
        return "exact"
    if court2(web):
        return "whole"
    return "some" if court1(web) else "open"


def sheet_text(sheet):
    """The sheet in rows of words."""
    if not isinstance(sheet, Sheet):
        raise InvalidSheet(-1)
    stand = sheet.stands[-1]
    rows = [f"sheet {stand.next_point} {stand.next_tie}"]
    rows.extend([f"point {point} {total}" for point, total in stand.points])
    rows.extend([f"tie {number} {tie_text(tie)} {least} {most}" for number, tie, least, most in stand.ties])
    return "\n".join(rows)


def read_sheet(text):
    """A sheet of just what a text tells."""
    rows = text_rows(text)
    words = rows[0].split(" ")
    nexts = [told_number(word) for word in words[1:]]
    if words[0] != "sheet" or len(nexts) != 2 or None in nexts:
        raise InvalidText(0)
    points, ties = [], []
    for at in range(1, len(rows)):
        words = rows[at].split(" ")
        row = None
        if words[0] == "point" and not ties and len(points) < MOST_SHEET_POINTS:
            row = read_point(words[1:], points, nexts[0])
            points.append(row)
        elif words[0] == "tie" and len(ties) < MOST_SHEET_TIES:
            row = read_tie(words[1:], points, ties, nexts[1])
            ties.append(row)
        if row is None:
            raise InvalidText(at)
    sheet = Sheet()
    sheet.stands = (Stand(tuple(points), tuple(ties), nexts[0], nexts[1]),)
    show_last(sheet)
    return sheet


def is_next(number, rows, limit):
    """Whether a number, if any, is above the last one and below the next one that will come."""
    return number is not None and number < limit and (not rows or number > rows[-1][0])


def read_point(words, points, limit):
    """The row of a point that words tell, or None."""
    if len(words) != 2:
        return None
    number, total = told_number(words[0]), told_integer(words[1])
    return (number, total) if is_next(number, points, limit) and is_amount(total) else None


def read_tie(words, points, ties, limit):
    """The row of a tie that words tell, or None."""
    tie = ordered_words(words[1:-2])
    if tie is None or any([point not in [row[0] for row in points] for point in (tie[0], tie[-2])]):
        return None
    number, least, most = told_number(words[0]), told_integer(words[-2]), told_integer(words[-1])
    if not is_next(number, ties, limit) or not is_amount(least) or not is_amount(most) or least > most:
        return None
    return number, tie, least, most
