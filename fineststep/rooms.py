"""Rooms: how far a price or an end can move before another answer is best."""

from fineststep.best import ways_to_go
from fineststep.checks import check_cell, check_narrow
from fineststep.ends import all_within, tightest
from fineststep.errors import NoCell, NotBest
from fineststep.exact import less, minus, over, plus, times
from fineststep.models import check_answer, with_item
from fineststep.rows import dot
from fineststep.stands import is_priced, leads_at, table_at


def price_room(model, answer, cell):
    """Returns the range of the prices of the cell for which the answer is best."""
    check_narrow(model.book)
    check_answer(model, answer)
    check_cell(model.book, cell)
    rows = ways_to_go(model, answer)
    if any([less(dot(model.prices, row), 0) for row in rows]):
        raise NotBest("the answer is not best")
    others = with_item(model.prices, cell, 0)
    lows, highs = [], []
    for row in rows:
        if row[cell] != 0:
            ends = lows if row[cell] > 0 else highs
            ends.append(over(minus(0, dot(others, row)), row[cell]))
    return tightest(lows, highs)


def end_room(model, stand, cell):
    """Returns the range of the numbers that the cell of the basis can have, the others of the basis unchanged."""
    priced = is_priced(model, stand)
    basis = stand[0]
    if cell not in basis:
        raise NoCell(cell)
    table = table_at(model, stand)
    if not priced or not all_within(table, model.box):
        raise NotBest("the stand is not priced, or its table is no answer")
    lead = leads_at(model.book, basis)[basis.index(cell)]
    lows, highs = [], []
    for other, (low, high) in enumerate(model.box):
        if other not in basis and lead[other] != 0:
            first, second = [moved_until(table, lead, cell, other, end) for end in (low, high)]
            lows.append(first if lead[other] > 0 else second)
            highs.append(second if lead[other] > 0 else first)
    return tightest(lows, highs)


def moved_until(table, lead, cell, other, end):
    """Returns the number of the cell with which the other cell has the end, None if the end is None."""
    if end is None:
        return None
    return plus(table[cell], over(times(minus(end, table[other]), lead[cell]), lead[other]))
