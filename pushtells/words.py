"""Words of texts and commands: integers, signs, ties, rows."""

from pushtells.errors import InvalidText

MOST_FIGURES = 40
FIGURES = "0123456789"
SIGNS = {"+": 1, "-": -1}


def told_integer(word):
    """The integer that a word tells, just as Python writes it, or None."""
    figures = word[1:] if word.startswith("-") else word
    if not 1 <= len(figures) <= MOST_FIGURES or any([figure not in FIGURES for figure in figures]):
        return None
    told = int(word)
    return told if str(told) == word else None


def told_number(word):
    """The integer from 0 on that a word tells, or None."""
    told = told_integer(word)
    return None if told is None or told < 0 else told


def told_tie(words):
    """The tie that points and signs by turns tell, its points as they stand, or None."""
    if len(words) not in (2, 4):
        return None
    tie = []
    for at in range(0, len(words), 2):
        point, sign = told_number(words[at]), SIGNS.get(words[at + 1])
        if point is None or sign is None:
            return None
        tie.extend([point, sign])
    return tuple(tie)


def ordered_words(words):
    """The tie that words tell with the lesser point first, or None."""
    tie = told_tie(words)
    return None if tie is None or (len(tie) == 4 and tie[0] >= tie[2]) else tie


def tie_text(tie):
    """A tie in words."""
    words = []
    for at, part in enumerate(tie):
        words.append(str(part) if at & 1 == 0 else ("+" if part == 1 else "-"))
    return " ".join(words)


def text_rows(text):
    """The rows of any value that is a string."""
    if not isinstance(text, str):
        raise InvalidText(-1)
    return text.split("\n")
