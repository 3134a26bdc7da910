"""Bases: lists of cells whose numbers can be chosen, and then determine a table."""

from fineststep.checks import check_cell, check_cells, check_narrow
from fineststep.clearing import narrowed
from fineststep.errors import NoCell, NotBasis
from fineststep.exact import ratio
from fineststep.rows import scaled
from fineststep.settled import cleared_at, rank


def bases(book):
    """Yields the bases, each as an ascending list of cells, in ascending order."""
    check_narrow(book)
    for cells, _ in narrowed(list(book.frame), 0, 0):
        yield list(cells)


def is_basis(book, cells):
    """Returns True if the cells are a basis, otherwise False."""
    return rank(book, cells) == len(book.frame) == len(set(cells))


def check_basis(book, cells):
    """Raises NoCell, and then NotBasis, unless the cells are a basis."""
    if not is_basis(book, cells):
        raise NotBasis("the cells are not a basis of the book")


def basis_rows(book, basis):
    """Returns the rows of the basis, in the ascending order of its cells."""
    check_basis(book, basis)
    kept, leads, _ = cleared_at(book, basis)
    return [scaled(lead, ratio(1, lead[cell])) for cell, lead in zip(kept, leads)]


def swap(book, first, second, cell):
    """Returns the least cell of the second basis that fits the cell of the first one."""
    check_cells(book, first)
    check_cells(book, second)
    check_cell(book, cell)
    check_basis(book, first)
    check_basis(book, second)
    if cell not in first or cell in second:
        raise NoCell(cell)
    others = [other for other in sorted(set(second)) if other not in first]
    return [other for other in others if fits(book, first, second, cell, other)][0]


def fits(book, first, second, cell, other):
    """Returns True if both lists are bases with cell and other in place of each other, otherwise False."""
    return is_basis(book, replaced(first, cell, other)) and is_basis(book, replaced(second, other, cell))


def replaced(cells, old, new):
    """Returns the list of cells with the new cell wherever the old one stands."""
    return [new if cell == old else cell for cell in cells]
