"""Deeds are done: each gives another model."""

from fineststep.books import cell_of
from fineststep.deeds import check_deed
from fineststep.errors import BadOrder
from fineststep.leaving import blanked
from fineststep.models import Model, with_mark, with_price, with_range
from fineststep.reshaped import with_entry, with_sum


def edited(model, deed):
    """Returns the model after the deed."""
    check_deed(deed)
    word, name = deed[0], deed[1]
    if word in ("sum", "entry"):
        return with_new_cell(model, word, name, deed[2])
    cell = cell_of(model.book, name)
    if word == "range":
        return with_range(model, cell, deed[2], deed[3])
    if word == "price":
        return with_price(model, cell, deed[2])
    if word == "leave":
        return blanked(model, cell)
    return with_mark(model, cell, word == "mark")


def with_new_cell(model, word, name, terms):
    """Returns the model with a last cell, a sum or an entry, that has no end, no price and no mark."""
    row = row_of(model.book, terms)
    book = with_sum(model.book, name, row) if word == "sum" else with_entry(model.book, name, row)
    return Model(book, list(model.box) + [(None, None)], prices=list(model.prices) + [0], marks=model.marks)


def row_of(book, terms):
    """Returns the row that has the number of each term at its cell and 0 elsewhere."""
    cells = [cell_of(book, name) for _, name in terms]
    if len(set(cells)) < len(cells):
        raise BadOrder("the terms name a cell twice")
    row = [0] * book.size
    for cell, (number, _) in zip(cells, terms):
        row[cell] = number
    return row
