"""Corners: answers that are determined by the ends that they stand at."""

from fineststep.bases import bases
from fineststep.checks import check_small
from fineststep.ends import all_within, given
from fineststep.models import is_answer
from fineststep.rows import ascending
from fineststep.settled import rank
from fineststep.stands import leads_at, table_with


def corners(model):
    """Returns the list of all corners, ascending."""
    check_small(model.book)
    book = model.book
    found = []
    for basis in bases(book):
        leads = leads_at(book, basis)
        tables = [table_with(basis, leads, values, book.size) for values in ends_at(model.box, basis)]
        found.extend([table for table in tables if all_within(table, model.box)])
    return ascending(found)


def ends_at(box, cells):
    """Returns all lists that have at each of the cells an end of its range."""
    found = [[]]
    for cell in cells:
        low, high = box[cell]
        found = [values + [end] for values in found for end in given([low] if low == high else [low, high])]
    return found


def is_corner(model, numbers):
    """Returns True if the list of numbers is a corner, otherwise False."""
    if not is_answer(model, numbers):
        return False
    held = [cell for cell, ends in enumerate(model.box) if numbers[cell] in ends]
    return rank(model.book, held) == len(model.book.frame)
