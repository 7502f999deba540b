"""The errors of the package."""


class LinkError(ValueError):
    """A value is not what a call asks for."""


class InvalidKinds(LinkError):
    """There are no such kinds."""


class InvalidRow(LinkError):
    """There is no such row."""


class InvalidReader(LinkError):
    """There is no such reader."""


class InvalidPage(LinkError):
    """There is no such page."""


class InvalidBook(LinkError):
    """There is no such book."""


class InvalidTree(LinkError):
    """There is no such tree."""


class InvalidHeap(LinkError):
    """There is no such heap."""


class InvalidPlan(LinkError):
    """There is no such plan."""


class InvalidPaper(LinkError):
    """There is no such paper."""


class InvalidOperation(LinkError):
    """An argument does not fit what it is passed for."""


class ParseError(LinkError):
    """A text, or the one with this number among several, cannot be read."""

    def __init__(self, number):
        self.number = number


class UnknownName(KeyError):
    """Something was looked up by a word that is not there."""

    def __init__(self, word):
        self.word = word


class AbsentKey(KeyError):
    """A key is not there."""

    def __init__(self, absent):
        self.absent = absent


class EmptyHeap(LookupError):
    """A deed asks for a key of a heap that has none."""

    def __init__(self, deed):
        self.deed = deed


class InvalidNumber(IndexError):
    """A number is none, or out of bounds."""

    def __init__(self, value):
        self.value = value


class NothingToUndo(RuntimeError):
    """There are not so many changes to take back or to do again."""

    def __init__(self, many):
        self.many = many


class TooMany(OverflowError):
    """There would be more than this limit."""

    def __init__(self, limit):
        self.limit = limit


class Refused(ArithmeticError):
    """A pledge would not hold."""

    def __init__(self, pledge):
        self.pledge = pledge


class Spoilt(ArithmeticError):
    """A deed fails: it would leave this row."""

    def __init__(self, row):
        self.row = row
