"""Pushes: cells that can always go to one end of their ranges, with no higher price."""

from fineststep.certificates import runs_free
from fineststep.checks import check_narrow
from fineststep.drops import SIDES
from fineststep.ends import is_fixed
from fineststep.exact import less
from fineststep.models import with_item
from fineststep.rows import dot, negative, support
from fineststep.turnings import is_turning, turnings


def first_push(model):
    """Returns the first push of the model, None if there is none."""
    check_narrow(model.book)
    rows = list(turnings(model.book))
    for cell in range(model.book.size):
        for side in SIDES:
            for row in rows:
                if row[cell] != 0 and leads_to(upward(row, cell), model, cell, side):
                    return ("push", cell, side, upward(row, cell))
    return None


def upward(row, cell):
    """Returns the row or its negative, whichever is above 0 at the cell."""
    return list(row) if row[cell] > 0 else negative(row)


def leads_to(row, model, cell, side):
    """Returns True if every answer leads along the row, which is above 0 at the cell, to this end of the cell."""
    low, high = model.box[cell]
    if is_fixed(low, high) or (low if side == "low" else high) is None:
        return False
    way = negative(row) if side == "low" else row
    if less(0, dot(model.prices, way)) or not runs_free(with_item(way, cell, 0), model.box):
        return False
    # A whole answer stays whole if the way to the whole end of the cell is a whole multiple of the row.
    return not has_marks(model, row) or cell in model.marks and row[cell] == 1


def has_marks(model, row):
    """Returns True if a cell in the support of the row is marked, otherwise False."""
    return any([cell in model.marks for cell in support(row)])


def push_holds(model, cell, side, row):
    """Returns True if the push with this row, a list with one number for each cell, may be done, otherwise False."""
    if not is_turning(model.book, row) or row[cell] == 0:
        return False
    return leads_to(upward(row, cell), model, cell, side)
