"""The errors of the package: each a class of its own directly below PushError."""


class PushError(Exception):
    """What all errors of this package have in common."""


class InvalidWeb(PushError):
    def __init__(self, at):
        self.at = at


class InvalidBox(PushError):
    def __init__(self, at):
        self.at = at


class InvalidTies(PushError):
    def __init__(self, at):
        self.at = at


class InvalidBounds(PushError):
    def __init__(self, at):
        self.at = at


class InvalidTotals(PushError):
    def __init__(self, at):
        self.at = at


class InvalidPoint(PushError):
    def __init__(self, at):
        self.at = at


class InvalidTie(PushError):
    def __init__(self, at):
        self.at = at


class InvalidLot(PushError):
    def __init__(self, at):
        self.at = at


class InvalidRow(PushError):
    def __init__(self, at):
        self.at = at


class InvalidRows(PushError):
    def __init__(self, at):
        self.at = at


class InvalidSigns(PushError):
    def __init__(self, at):
        self.at = at


class InvalidWeights(PushError):
    def __init__(self, at):
        self.at = at


class InvalidPrices(PushError):
    def __init__(self, at):
        self.at = at


class InvalidRead(PushError):
    def __init__(self, at):
        self.at = at


class InvalidSide(PushError):
    def __init__(self, at):
        self.at = at


class InvalidBlock(PushError):
    def __init__(self, at):
        self.at = at


class InvalidPaper(PushError):
    def __init__(self, at):
        self.at = at


class InvalidValue(PushError):
    def __init__(self, at):
        self.at = at


class InvalidIndex(PushError):
    def __init__(self, at):
        self.at = at


class InvalidKind(PushError):
    def __init__(self, at):
        self.at = at


class InvalidWord(PushError):
    def __init__(self, at):
        self.at = at


class InvalidHoles(PushError):
    def __init__(self, at):
        self.at = at


class InvalidText(PushError):
    def __init__(self, at):
        self.at = at


class InvalidDeed(PushError):
    def __init__(self, at):
        self.at = at


class InvalidSheet(PushError):
    def __init__(self, at):
        self.at = at


class InvalidMark(PushError):
    def __init__(self, at):
        self.at = at


class InvalidCommand(PushError):
    def __init__(self):
        pass


class InvalidSize(PushError):
    def __init__(self, word):
        self.word = word


class Refused(PushError):
    def __init__(self, at):
        self.at = at
