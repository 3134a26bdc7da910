"""Turnings: the tables that are 0 at as many cells as possible."""

from fineststep.books import is_table
from fineststep.checks import check_cell, check_cells, check_narrow
from fineststep.clearing import cleared, narrowed
from fineststep.rows import negative, primitive, support, with_negatives


def turnings(book):
    """Yields the turnings in order, each as a list."""
    check_narrow(book)
    for row in turning_rows(book):
        yield list(row)


def turning_rows(book):
    """Returns the turnings in order, without asking for a narrow book."""
    found = {}
    for _, rest in narrowed(list(book.frame), 0, 1):
        found[tuple(support(rest[0]))] = rest[0]
    return [found[cells] for cells in sorted(found)]


def signed_turnings(book):
    """Returns the list of the signed turnings in order, without asking for a narrow book."""
    return with_negatives([list(row) for row in turning_rows(book)])


def is_turning(book, row):
    """Returns True if the row is a signed turning, otherwise False."""
    if not is_table(book, row):
        return False
    cells = support(row)
    if not cells or primitive(row) not in (list(row), negative(row)):
        return False
    others = [cell for cell in range(book.size) if cell not in cells]
    return len(cleared(book.frame, others)[2]) == 1


def turning_within(book, cells):
    """Returns the first turning that lies within the cells, or None."""
    check_narrow(book)
    check_cells(book, cells)
    for row in turnings(book):
        if is_within(row, cells):
            return row
    return None


def is_within(row, cells):
    """Returns True if the row is 0 at all other cells, otherwise False."""
    return all([cell in cells for cell in support(row)])


def turnings_through(book, cell):
    """Returns the list of the turnings that go through the cell, in order."""
    check_narrow(book)
    check_cell(book, cell)
    return [row for row in turnings(book) if row[cell] != 0]
