"""Sheets: what a book and prices give for all boxes at once."""

from fineststep.bases import bases
from fineststep.boxes import check_lengths, worth_over
from fineststep.checks import check_narrow, check_size
from fineststep.ends import check_full
from fineststep.exact import less, minus
from fineststep.rows import ascending, negative
from fineststep.stands import reduced_at


def sheets(book, prices):
    """Returns the list of the sheets."""
    check_narrow(book)
    check_size(book, prices)
    return ascending([reduced_at(book, basis, prices) for basis in bases(book)])


def sheet_worth(sheet, box):
    """Returns the worth of the sheet over the box, None if there is none."""
    check_lengths(sheet, box)
    check_full(box)
    return least_worth(sheet, box)


def least_worth(row, box):
    """Returns the least sum of the row's numbers times numbers of the box, None if there is none."""
    worth = worth_over(negative(row), box)
    return None if worth is None else minus(0, worth)


def greatest_sheet(model):
    """Returns a tuple of the greatest worth and the first sheet that has it, None if no sheet has a worth."""
    best = None
    for sheet in sheets(model.book, model.prices):
        worth = least_worth(sheet, model.box)
        if worth is not None and (best is None or less(best[0], worth)):
            best = (worth, sheet)
    return best
