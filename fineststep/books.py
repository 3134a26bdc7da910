"""Books: names of cells, and the tables that are sums of multiples of rows."""

from fineststep.clearing import cleared
from fineststep.errors import BadName, BadSize, NoCell
from fineststep.exact import over, ratio
from fineststep.rows import added, primitive, scaled, support

MOST_CELLS = 16
MOST_SIGNS = 12
LETTERS = "abcdefghijklmnopqrstuvwxyz"
DIGITS = "0123456789"


class Book:
    """A book with its names, its size and its frame."""

    def __init__(self, names, rows):
        if not 1 <= len(names) <= MOST_CELLS:
            raise BadSize("a book has 1 to 16 cells")
        check_names(names)
        for row in rows:
            if len(row) != len(names):
                raise BadSize("a row does not have one number for each cell")
        self.names = tuple(names)
        self.size = len(names)
        self.frame = frame_of(rows, len(names))

    @classmethod
    def free(cls, names):
        """Returns the book in which every list of numbers is a table."""
        return cls(names, [unit(len(names), cell) for cell in range(len(names))])


def check_names(names):
    """Raises BadName if a name is not well formed or stands twice."""
    for name in names:
        if not is_name(name):
            raise BadName("a name is not well formed")
    if len(set(names)) < len(names):
        raise BadName("a name stands twice")


def is_name(text):
    """Returns True if the text is a well-formed name, otherwise False."""
    if not 1 <= len(text) <= MOST_SIGNS or text[0] not in LETTERS:
        return False
    return all([sign in LETTERS or sign in DIGITS for sign in text])


def unit(size, cell):
    """Returns the list of numbers that is 1 at the cell and 0 elsewhere."""
    row = [0] * size
    row[cell] = 1
    return row


def frame_of(rows, size):
    """Returns the frame of the tables that the rows give, a tuple of tuples."""
    leads = cleared([primitive(row) for row in rows], list(range(size)))[1]
    return tuple([tuple(lead) for lead in leads])


def pivots(book):
    """Returns the ascending list of the entries."""
    return [support(row)[0] for row in book.frame]


def cell_of(book, name):
    """Returns the cell with this name."""
    for cell, known in enumerate(book.names):
        if known == name:
            return cell
    raise NoCell(name)


def is_table(book, numbers):
    """Returns True if the list of numbers is a table of the book, otherwise False."""
    if len(numbers) != book.size:
        raise BadSize("a list does not have one number for each cell")
    return table_of(book, [numbers[entry] for entry in pivots(book)]) == list(numbers)


def table_of(book, values):
    """Returns the table that has these numbers at the entries."""
    entries = pivots(book)
    if len(values) != len(entries):
        raise BadSize("there is not one value for each entry")
    table = [0] * book.size
    for row, entry, value in zip(book.frame, entries, values):
        table = added(table, scaled(row, over(value, row[entry])))
    return table


def same_book(first, second):
    """Returns True if the two books have the same names and the same tables, otherwise False."""
    return first.names == second.names and first.frame == second.frame


def other_side(book):
    """Returns the book with the same names whose tables are the price rows."""
    entries = pivots(book)
    return Book(book.names, [price_row(book, cell) for cell in range(book.size) if cell not in entries])


def price_row(book, cell):
    """Returns the price row that is 1 at this sum and 0 at all other sums."""
    row = unit(book.size, cell)
    for line in book.frame:
        entry = support(line)[0]
        row[entry] = ratio(-line[cell], line[entry])
    return row
