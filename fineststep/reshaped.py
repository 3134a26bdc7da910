"""Books that are made from a book."""

from fineststep.books import Book, unit
from fineststep.checks import check_cell, check_cells, check_size
from fineststep.clearing import cleared
from fineststep.errors import BadOrder, BadSize, BadStep
from fineststep.exact import times
from fineststep.rows import dot


def bind(book, cells):
    """Returns the book of the tables that are 0 at the cells, without these cells."""
    check_cells(book, cells)
    return left_out(book, cleared(book.frame, cells)[2], cells)


def blank(book, cells):
    """Returns the book of all tables without the cells."""
    check_cells(book, cells)
    return left_out(book, book.frame, cells)


def left_out(book, rows, cells):
    """Returns the book of the rows without the cells."""
    others = [cell for cell in range(book.size) if cell not in cells]
    if not others:
        raise BadSize("no cell is left")
    return picked(book, rows, others)


def picked(book, rows, cells):
    """Returns the book that has the cells, with their names, in this order."""
    return Book([book.names[cell] for cell in cells], [[row[cell] for cell in cells] for row in rows])


def with_sum(book, name, row):
    """Returns the book with a last cell whose number is the dot of the row and the table."""
    check_size(book, row)
    return with_last(book, name, [list(line) + [dot(row, line)] for line in book.frame])


def with_entry(book, name, row):
    """Returns the book with a last cell, any multiple of which moves the other cells by the row."""
    check_size(book, row)
    return with_last(book, name, [list(line) + [0] for line in book.frame] + [list(row) + [1]])


def with_last(book, name, rows):
    """Returns the book of these rows with a last cell of this name."""
    # A book of 16 cells has no room for it: Book finds this before it looks at the name.
    return Book(list(book.names) + [name], rows)


def turned(book, cell):
    """Returns the book with the other sign at the cell in all tables."""
    return retold(book, cell, -1)


def retold(book, cell, factor):
    """Returns the book with the number at the cell multiplied by the factor in all tables."""
    check_cell(book, cell)
    if factor == 0:
        raise BadStep("the factor is 0")
    return Book(book.names, [retold_row(row, cell, factor) for row in book.frame])


def retold_row(row, cell, factor):
    """Returns the row with its number at the cell multiplied by the factor."""
    return [times(number, factor) if k == cell else number for k, number in enumerate(row)]


def doubled(book, cell, name):
    """Returns the book with a last cell that has the number of this cell in all tables."""
    check_cell(book, cell)
    return with_sum(book, name, unit(book.size, cell))


def reordered(book, order):
    """Returns the book whose cell k is the cell order[k] of this book."""
    if sorted(order) != list(range(book.size)):
        raise BadOrder("the order does not list each cell exactly once")
    return picked(book, book.frame, order)
