"""Two turnings that share a cell give a turning that is 0 there."""

from fineststep.checks import check_cell, check_narrow, check_size
from fineststep.errors import BadCrossing
from fineststep.rows import support
from fineststep.turnings import is_turning, is_within, turnings


def crossed(book, first, second, away, keep):
    """Returns the first turning within the two rows that is 0 at `away` and not 0 at `keep`."""
    check_narrow(book)
    check_size(book, first)
    check_size(book, second)
    check_cell(book, away)
    check_cell(book, keep)
    if not may_cross(first, second, away, keep) or not is_turning(book, first) or not is_turning(book, second):
        raise BadCrossing("the rows and the cells do not cross as they must")
    cells = support(first) + support(second)
    found = [row for row in turnings(book) if row[away] == 0 and row[keep] != 0 and is_within(row, cells)]
    return found[0]


def may_cross(first, second, away, keep):
    """Returns True if both rows have the cell `away`, and only the first one has `keep`, otherwise False."""
    return first[away] != 0 and second[away] != 0 and first[keep] != 0 and second[keep] == 0
