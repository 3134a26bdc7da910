"""The errors of the program: each one is a direct subclass of BookError."""


class BookError(ValueError):
    """The base class of all errors of the program."""


class NoCell(BookError):
    """There is no such cell."""

    def __init__(self, cell):
        self.cell = cell


class EmptyRange(BookError):
    """The low end of a range is above its high end."""

    def __init__(self, cell):
        self.cell = cell


class NoEnd(BookError):
    """A range has no end where one is needed."""

    def __init__(self, cell):
        self.cell = cell


class NoStart(BookError):
    """An entry does not have the end that a start from below needs."""

    def __init__(self, cell):
        self.cell = cell


class NotEntry(BookError):
    """A cell is not an entry."""

    def __init__(self, cell):
        self.cell = cell


class MixedModel(BookError):
    """A cell is not sure whole."""

    def __init__(self, cell):
        self.cell = cell


class TooWide(BookError):
    """A book has too many cells for what is asked."""

    def __init__(self, size):
        self.size = size


class TooMany(BookError):
    """There would be too many things to go through."""

    def __init__(self, many):
        self.many = many


class CoarseBook(BookError):
    """The finest step of a book is not 1."""

    def __init__(self, step):
        self.step = step


class NoAnswer(BookError):
    """A model has no answer; the row, a list, shows it."""

    def __init__(self, row):
        self.row = row


class NoLeast(BookError):
    """There is no least price; the turning, a list, shows it."""

    def __init__(self, turning):
        self.turning = turning


class BadLine(BookError):
    """A text has a fault; lines and words are counted from 1."""

    def __init__(self, line, word):
        self.line = line
        self.word = word


class ZeroBottom(BookError):
    """A number would have the bottom 0."""


class BadName(BookError):
    """A name is not well formed, or stands twice."""


class BadSize(BookError):
    """There are too many or too few of something."""


class NotTable(BookError):
    """A list of numbers is not a table of the book."""


class NotWhole(BookError):
    """A number that must be whole is a fraction."""


class NotAnswer(BookError):
    """A table is not an answer of the model."""


class BadText(BookError):
    """A text is not the written form of anything."""


class BadStep(BookError):
    """A step or a factor is out of its limits."""


class NotBasis(BookError):
    """A list of cells is not a basis of the book."""


class BadColour(BookError):
    """A cell has none of the three colours."""


class BadCrossing(BookError):
    """Two rows and two cells do not cross as they must."""


class NotPlain(BookError):
    """A number in the frame of a book is none of 0, 1 and -1."""


class BadSquare(BookError):
    """Some sums and some entries do not make a square."""


class BadOrder(BookError):
    """A list does not have each cell as it must."""


class BadWeb(BookError):
    """A node of an edge is out of range."""


class BadStretch(BookError):
    """A stretch does not lie within the entries."""


class Crossing(BookError):
    """Two sets of one nest cross."""


class BadSide(BookError):
    """A side is neither low nor high."""


class BadClash(BookError):
    """Some bounds are not a least clash."""


class BadWeight(BookError):
    """A weight or a width is below 0."""


class BadStand(BookError):
    """A stand is none of the model."""


class NotPriced(BookError):
    """A stand is not priced."""


class BadRule(BookError):
    """A rule is none of those that there are."""


class NotBest(BookError):
    """An answer is not best."""


class NoCut(BookError):
    """A stand has no cut for a cell."""


class BadCut(BookError):
    """A cut does not hold."""


class BadAhead(BookError):
    """A reduction step may not be done, or a rule of it is none."""


class NotRounding(BookError):
    """A table is not a rounding of another one."""


class BadLot(BookError):
    """A lot is empty."""


class BadChance(BookError):
    """A chance is out of its limits."""


class BadDays(BookError):
    """There are too many or too few days."""


class NotEven(BookError):
    """Many times a table is not whole."""


class NoDeed(BookError):
    """There is no deed to take back or to do again."""


class BadDeed(BookError):
    """A tuple is not a deed."""
