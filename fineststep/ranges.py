"""The ranges of cells over all answers of a model."""

from fineststep.barring import check_bars, signed_prices
from fineststep.boxes import worth_over
from fineststep.checks import check_cell, check_narrow
from fineststep.ends import tightest
from fineststep.exact import minus, over
from fineststep.models import with_item


def cell_range(model, cell):
    """Returns the range of the cell over the answers, a tuple."""
    check_narrow(model.book)
    check_cell(model.book, cell)
    rows = signed_prices(model.book)
    check_bars(rows, model.box)
    return span(rows, model.box, cell)


def ranges(model):
    """Returns the list of the ranges of all cells over the answers."""
    rows = signed_prices(model.book)
    check_bars(rows, model.box)
    return [span(rows, model.box, cell) for cell in range(model.book.size)]


def span(rows, box, cell):
    """Returns the range of the cell over the tables in the box, of which there are some; the rows are all signed
    price turnings.

    If a number beyond this range is an end of the cell, a signed price turning bars the box. It uses this end, so the
    ends that it uses at the other cells bound the cell just as far.
    """
    low, high = box[cell]
    lows, highs = [low], [high]
    for row in rows:
        if row[cell] != 0:
            worth = worth_over(with_item(row, cell, 0), box)
            if worth is not None:
                ends = lows if row[cell] > 0 else highs
                ends.append(over(worth, minus(0, row[cell])))
    return tightest(lows, highs)
