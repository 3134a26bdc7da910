"""Plain books: their squares and their groups of entries."""

from itertools import combinations

from fineststep.books import pivots
from fineststep.checks import check_cells, check_narrow
from fineststep.determinant import determinant
from fineststep.errors import BadSquare, NotEntry, NotPlain
from fineststep.rows import added, negative


def is_plain(book):
    """Returns True if every number in the frame is 0, 1 or -1, otherwise False."""
    return all([is_unit(number) for row in book.frame for number in row])


def is_unit(number):
    """Returns True if the number is 0, 1 or -1, otherwise False."""
    return -1 <= number <= 1


def check_plain(book):
    """Raises NotPlain unless the book is plain."""
    if not is_plain(book):
        raise NotPlain("a number in the frame is none of 0, 1 and -1")


def square_worth(book, sums, entries):
    """Returns the worth of the square of these sums and entries."""
    check_cells(book, sums)
    check_cells(book, entries)
    check_plain(book)
    known = pivots(book)
    if any([cell in known for cell in sums]) or any([cell not in known for cell in entries]):
        raise BadSquare("a cell of a square is on the wrong side")
    if len(set(sums)) != len(set(entries)):
        raise BadSquare("a square does not have as many sums as entries")
    return worth_of(book, sorted(set(sums)), sorted(set(entries)))


def worth_of(book, sums, entries):
    """Returns the worth of a square given by two ascending lists."""
    rows = frame_rows(book, entries)
    return determinant([[row[cell] for row in rows] for cell in sums])


def frame_rows(book, entries):
    """Returns the frame rows of the entries."""
    return [row for row, entry in zip(book.frame, pivots(book)) if entry in entries]


def least_bad_square(book):
    """Returns the least bad square as a tuple (sums, entries, worth), or None."""
    check_narrow(book)
    check_plain(book)
    entries = pivots(book)
    sums = [cell for cell in range(book.size) if cell not in entries]
    for many in range(2, len(sums) + 1):
        for lines in combinations(sums, many):
            for places in combinations(entries, many):
                worth = worth_of(book, lines, places)
                if not is_unit(worth):
                    return (list(lines), list(places), worth)
    return None


def halves(book, group):
    """Returns halves of the group as a tuple of two lists, None if it is uneven."""
    check_narrow(book)
    check_cells(book, group)
    check_plain(book)
    entries = pivots(book)
    for cell in group:
        if cell not in entries:
            raise NotEntry(cell)
    return halves_of(book, sorted(set(group)))


def halves_of(book, group):
    """Returns halves of an ascending list of entries, or None."""
    for first in first_halves(group):
        second = [cell for cell in group if cell not in first]
        if are_halves(book, first, second):
            return (first, second)
    return None


def first_halves(group):
    """Returns, in order, the ascending lists of cells of the group that hold its least cell, if it has one."""
    found = [group[:1]]
    for cell in group[1:]:
        found = found + [half + [cell] for half in found]
    return sorted(found)


def are_halves(book, first, second):
    """Returns True if the rows of the first entries less those of the second ones have only 0, 1 and -1."""
    total = [0] * book.size
    for row in frame_rows(book, first):
        total = added(total, row)
    for row in frame_rows(book, second):
        total = added(total, negative(row))
    return all([is_unit(number) for number in total])


def uneven_group(book):
    """Returns the first uneven group with the fewest entries as an ascending list, or None."""
    check_narrow(book)
    check_plain(book)
    entries = pivots(book)
    for many in range(1, len(entries) + 1):
        for group in combinations(entries, many):
            if halves_of(book, list(group)) is None:
                return list(group)
    return None
