"""All errors of the package: each keeps its arguments in attributes of their names."""


class ShelfError(Exception):
    """The base class of all errors here."""


class InvalidText(ShelfError):
    def __init__(self, at):
        self.at = at


class InvalidShelf(ShelfError):
    def __init__(self, at):
        self.at = at


class InvalidRoom(ShelfError):
    def __init__(self, at):
        self.at = at


class InvalidLayout(ShelfError):
    def __init__(self, at):
        self.at = at


class InvalidWeb(ShelfError):
    def __init__(self, at):
        self.at = at


class InvalidRooms(ShelfError):
    def __init__(self, at):
        self.at = at


class InvalidWalk(ShelfError):
    def __init__(self, at):
        self.at = at


class InvalidTrack(ShelfError):
    def __init__(self, at):
        self.at = at


class InvalidFold(ShelfError):
    def __init__(self, at):
        self.at = at


class InvalidBlock(ShelfError):
    def __init__(self, at):
        self.at = at


class InvalidCell(ShelfError):
    def __init__(self, at):
        self.at = at


class InvalidOut(ShelfError):
    def __init__(self, at):
        self.at = at


class InvalidRun(ShelfError):
    def __init__(self, at):
        self.at = at


class InvalidGaps(ShelfError):
    def __init__(self, at):
        self.at = at


class InvalidPrices(ShelfError):
    def __init__(self, at):
        self.at = at


class InvalidWeights(ShelfError):
    def __init__(self, at):
        self.at = at


class InvalidWrites(ShelfError):
    def __init__(self, at):
        self.at = at


class InvalidLot(ShelfError):
    def __init__(self, at):
        self.at = at


class InvalidRule(ShelfError):
    def __init__(self, at):
        self.at = at


class InvalidWeave(ShelfError):
    def __init__(self, at):
        self.at = at


class InvalidDeed(ShelfError):
    def __init__(self, at):
        self.at = at


class InvalidIndex(ShelfError):
    def __init__(self, at):
        self.at = at


class InvalidBegins(ShelfError):
    def __init__(self, at):
        self.at = at


class InvalidRows(ShelfError):
    def __init__(self, at):
        self.at = at


class InvalidOrder(ShelfError):
    def __init__(self, at):
        self.at = at


class InvalidLists(ShelfError):
    def __init__(self, at):
        self.at = at


class InvalidLengths(ShelfError):
    def __init__(self, at):
        self.at = at


class InvalidPaper(ShelfError):
    def __init__(self, at):
        self.at = at


class InvalidAnswers(ShelfError):
    def __init__(self, at):
        self.at = at


class InvalidHouse(ShelfError):
    def __init__(self, at):
        self.at = at


class Refused(ShelfError):
    def __init__(self, at):
        self.at = at


class InvalidSize(ShelfError):
    def __init__(self, word):
        self.word = word


class InvalidCommand(ShelfError):
    def __init__(self):
        pass


class InvalidEdit(ShelfError):
    def __init__(self):
        pass
