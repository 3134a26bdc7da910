"""Cuts: bounds for whole rows that every whole answer keeps."""

from fineststep.boxes import worth_over
from fineststep.checks import check_cell, check_size
from fineststep.errors import BadCut, NoCut
from fineststep.exact import ceiling_of, floor_of, is_whole, minus, ratio
from fineststep.lowering import check_whole_model, sure_whole
from fineststep.models import Model
from fineststep.reshaped import with_sum
from fineststep.rows import added, dot, support
from fineststep.sides import is_price
from fineststep.stands import check_stand, leads_at, table_at


def cut_holds(model, cut):
    """Returns True if the cut holds for the model, otherwise False."""
    row, price_row, bound = cut
    check_size(model.book, row)
    check_size(model.book, price_row)
    known = sure_whole(model)
    if not all([is_whole(row[cell]) and cell in known for cell in support(row)]):
        return False
    worth = worth_over(added(row, price_row), model.box)
    return is_price(model.book, price_row) and worth is not None and floor_of(worth) <= bound


def with_cut(model, name, cut):
    """Returns the model with the sum of the cut's row, marked, and with the bound as its high end."""
    row, price_row, bound = cut
    check_size(model.book, row)
    check_size(model.book, price_row)
    book = with_sum(model.book, name, row)
    if not cut_holds(model, cut):
        raise BadCut("the cut does not hold")
    box = list(model.box) + [(None, bound)]
    return Model(book, box, prices=list(model.prices) + [0], marks=list(model.marks) + [model.book.size])


def cut_of(model, stand, cell):
    """Returns the cut of the stand for a cell outside its basis."""
    check_whole_model(model)
    check_stand(model, stand)
    check_cell(model.book, cell)
    cut = cut_at(model, stand, cell)
    if cut is None:
        raise NoCut("the stand has no cut for the cell")
    return cut


def cut_at(model, stand, cell):
    """Returns the cut of a stand of a whole model for the cell, None if there is none."""
    basis, ends = stand
    if cell in basis:
        return None
    row, price_row = [0] * model.book.size, [0] * model.book.size
    row[cell], price_row[cell] = 1, -1
    for held, word, lead in zip(basis, ends, leads_at(model.book, basis)):
        factor = ratio(lead[cell], lead[held])
        if word == "zero" and not is_whole(factor):
            return None
        price_row[held] = factor
        row[held] = minus(0, floor_of(factor) if word == "high" else ceiling_of(factor))
    worth = dot(row, table_at(model, stand))
    return None if is_whole(worth) else (row, price_row, floor_of(worth))
