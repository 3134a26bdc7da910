"""Drops: ends that the ranges of other cells keep anyway."""

from fineststep.books import other_side
from fineststep.boxes import worth_over
from fineststep.ends import is_empty, is_fixed
from fineststep.exact import minus, over
from fineststep.models import with_item
from fineststep.sheets import least_worth
from fineststep.sides import price_turnings
from fineststep.turnings import is_turning

SIDES = ("low", "high")


def first_drop(model):
    """Returns the first drop of the model, None if there is none."""
    rows = price_turnings(model.book)
    for cell in range(model.book.size):
        for side in SIDES:
            row = first_implying(model, cell, side, rows)
            if row is not None:
                return ("drop", cell, side, row)
    return None


def first_implying(model, cell, side, rows):
    """Returns the first of the price turnings with which the end may be dropped, or None."""
    if may_lose(model, cell, side):
        for row in rows:
            if row[cell] != 0 and implies(row, model.box, cell, side):
                return row
    return None


def may_lose(model, cell, side):
    """Returns True if there is this end, and the cell is neither marked nor fixed, otherwise False."""
    low, high = model.box[cell]
    return cell not in model.marks and not is_fixed(low, high) and (low if side == "low" else high) is not None


def implies(row, box, cell, side):
    """Returns True if the row and the ranges of the other cells keep the end of the cell, otherwise False."""
    low, high = box[cell]
    factors = [over(minus(0, number), row[cell]) for number in with_item(row, cell, 0)]
    worth = least_worth(factors, box) if side == "low" else worth_over(factors, box)
    if worth is None:
        return False
    return not is_empty(low, worth) if side == "low" else not is_empty(worth, high)


def drop_holds(model, cell, side, row):
    """Returns True if the drop with this row, a list with one number for each cell, may be done, otherwise False."""
    if not is_turning(other_side(model.book), row) or row[cell] == 0:
        return False
    return may_lose(model, cell, side) and implies(row, model.box, cell, side)
