"""Webs and boxes as texts."""

from pushtells.boxes import Box, are_bounds, check_web_box
from pushtells.errors import InvalidText
from pushtells.webs import MOST_POINTS, MOST_TIES, Web, check_web
from pushtells.words import ordered_words, text_rows, tie_text, told_integer, told_number


def web_text(web):
    """The web in rows of words."""
    check_web(web)
    return "\n".join([f"web {web.points}"] + [f"tie {tie_text(tie)}" for tie in web.ties])


def box_text(web, box):
    """The box in rows of words."""
    check_web_box(web, box)
    pairs = [f"{least} {greatest}" for least, greatest in box.bounds]
    return "\n".join(["box"] + pairs + [f"total {total}" for total in box.totals])


def read_web(text):
    """The web of just such a text."""
    rows = text_rows(text)
    words = rows[0].split(" ")
    points = told_number(words[1]) if len(words) == 2 and words[0] == "web" else None
    if points is None or not 1 <= points <= MOST_POINTS:
        raise InvalidText(0)
    ties = []
    for at in range(1, len(rows)):
        words = rows[at].split(" ")
        tie = ordered_words(words[1:]) if words[0] == "tie" else None
        if at > MOST_TIES or tie is None or max(tie[0], tie[-2]) >= points:
            raise InvalidText(at)
        ties.append(tie)
    return Web(points, ties)


def read_box(web, text):
    """The box over a web of just such a text."""
    check_web(web)
    rows = text_rows(text)
    if rows[0] != "box":
        raise InvalidText(0)
    bounds, totals = [], []
    due = 1 + len(web.ties) + web.points
    for at in range(1, due):
        words = rows[at].split(" ") if at < len(rows) else []
        if len(bounds) < len(web.ties):
            pair = [told_integer(word) for word in words]
            if not are_bounds(pair):
                raise InvalidText(at)
            bounds.append(pair)
        else:
            total = told_integer(words[1]) if len(words) == 2 and words[0] == "total" else None
            if total is None:
                raise InvalidText(at)
            totals.append(total)
    if len(rows) > due:
        raise InvalidText(due)
    return Box(web, bounds, totals)
