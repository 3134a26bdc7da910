"""The answer in which each cell in turn is as near as it can be to a whole number."""

from fineststep.barring import check_bars, signed_prices
from fineststep.checks import check_narrow, check_size
from fineststep.ends import pulled
from fineststep.ranges import span


def pick_answer(model, *, toward=None):
    """Returns the pick toward a list of whole numbers, toward zeros if it is None."""
    check_narrow(model.book)
    wanted = [0] * model.book.size if toward is None else toward
    check_size(model.book, wanted)
    rows = signed_prices(model.book)
    check_bars(rows, model.box)
    box = list(model.box)
    for cell, number in enumerate(wanted):
        low, high = span(rows, box, cell)
        picked = pulled(number, low, high)
        box[cell] = (picked, picked)
    return [low for low, _ in box]
