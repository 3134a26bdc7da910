"""Both sides of a book: its tables and its price rows."""

from fineststep.books import other_side
from fineststep.checks import check_narrow, check_size
from fineststep.rows import dot
from fineststep.turnings import turnings


def price_turnings(book):
    """Returns the list of the price turnings in order."""
    check_narrow(book)
    other = other_side(book)
    return list(turnings(other))


def is_price(book, numbers):
    """Returns True if the list of numbers is a price row of the book, otherwise False."""
    check_size(book, numbers)
    return all([dot(row, numbers) == 0 for row in book.frame])


def common_cells(first, second):
    """Returns the ascending list of the cells at which neither list is 0."""
    return [cell for cell, (x, y) in enumerate(zip(first, second)) if x != 0 and y != 0]
