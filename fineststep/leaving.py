"""Cells that can leave a model: those without any bound or price, and those that are always 0."""

from fineststep.models import Model
from fineststep.reshaped import bind, blank


def first_blank(model):
    """Returns the first blank of the model, None if there is none."""
    for cell in range(model.book.size):
        if may_blank(model, cell):
            return ("blank", cell)
    return None


def first_shut(model):
    """Returns the first shut of the model, None if there is none."""
    for cell in range(model.book.size):
        if may_shut(model, cell):
            return ("shut", cell)
    return None


def may_blank(model, cell):
    """Returns True if the cell has no end, no price and no mark, and is not the only one, otherwise False."""
    if model.book.size == 1 or cell in model.marks:
        return False
    return model.box[cell] == (None, None) and model.prices[cell] == 0


def may_shut(model, cell):
    """Returns True if both ends of the cell are 0, and it is not the only one, otherwise False."""
    return model.book.size > 1 and model.box[cell] == (0, 0)


def blanked(model, cell):
    """Returns the model of all tables without the cell."""
    return without_cell(model, cell, blank(model.book, [cell]))


def shut(model, cell):
    """Returns the model of the tables that are 0 at the cell, without it."""
    return without_cell(model, cell, bind(model.book, [cell]))


def without_cell(model, cell, book):
    """Returns the model of a book that has the other cells, with their ranges, prices and marks."""
    others = [other for other in range(model.book.size) if other != cell]
    box = [model.box[other] for other in others]
    marks = [others.index(mark) for mark in model.marks if mark != cell]
    return Model(book, box, prices=[model.prices[other] for other in others], marks=marks)
