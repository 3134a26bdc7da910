"""What the numbers at some cells settle about the others."""

from fineststep.checks import check_cell, check_cells
from fineststep.clearing import cleared
from fineststep.exact import ratio


def first_free(book, cells):
    """Returns the ascending list of the first free cells."""
    return cleared_at(book, cells)[0]


def rank(book, cells):
    """Returns the number of the first free cells."""
    return len(first_free(book, cells))


def settled(book, cells):
    """Returns the ascending list of all cells that the list of cells settles."""
    rest = cleared_at(book, cells)[2]
    return [cell for cell in range(book.size) if is_zero_at(rest, cell)]


def settling_rule(book, cells, cell):
    """Returns the settling rule of the cell, or None."""
    kept, leads, rest = cleared_at(book, cells)
    check_cell(book, cell)
    if not is_zero_at(rest, cell):
        return None
    return [(free, ratio(lead[cell], lead[free])) for free, lead in zip(kept, leads) if lead[cell] != 0]


def cleared_at(book, cells):
    """Returns the first free cells, their leads, and the rows of the tables that are 0 at all listed cells."""
    check_cells(book, cells)
    return cleared(book.frame, sorted(set(cells)))


def is_zero_at(rows, cell):
    """Returns True if all rows are 0 at the cell, otherwise False."""
    return all([row[cell] == 0 for row in rows])
