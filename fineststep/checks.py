"""Checks of arguments: each function returns nothing and raises the error that is named for its case."""

from fineststep.books import is_table
from fineststep.errors import BadSize, NoCell, NotTable, TooWide

NARROW = 9
SMALL = 6


def check_narrow(book):
    """Raises TooWide unless the book is narrow."""
    if book.size > NARROW:
        raise TooWide(book.size)


def check_small(book):
    """Raises TooWide unless the book is small."""
    if book.size > SMALL:
        raise TooWide(book.size)


def check_cell(book, cell):
    """Raises NoCell if the cell is out of range."""
    if not 0 <= cell < book.size:
        raise NoCell(cell)


def check_cells(book, cells):
    """Raises NoCell with the first of the cells that is out of range."""
    for cell in cells:
        check_cell(book, cell)


def check_size(book, row):
    """Raises BadSize unless the list has one item for each cell."""
    if len(row) != book.size:
        raise BadSize("a list does not have one item for each cell")


def check_table(book, table):
    """Raises BadSize, and then NotTable, unless the list is a table of the book."""
    if not is_table(book, table):
        raise NotTable("a list is not a table of the book")
