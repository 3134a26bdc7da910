"""Signed price turnings that bar a model: they show that it has no answer."""

from fineststep.boxes import worth_over
from fineststep.errors import NoAnswer
from fineststep.exact import less
from fineststep.rows import with_negatives
from fineststep.sides import price_turnings


def barring(model):
    """Returns the first signed price turning that bars the model, None if none bars it."""
    return first_bar(signed_prices(model.book), model.box)


def has_answer(model):
    """Returns True if the model has an answer, otherwise False."""
    return barring(model) is None


def signed_prices(book):
    """Returns the signed price turnings of a narrow book in order."""
    return with_negatives(price_turnings(book))


def bars(row, box):
    """Returns True if the greatest worth of the row over the box is a number below 0, otherwise False."""
    worth = worth_over(row, box)
    return worth is not None and less(worth, 0)


def first_bar(rows, box):
    """Returns the first of the rows that bars the box, or None."""
    for row in rows:
        if bars(row, box):
            return row
    return None


def all_bars(model):
    """Returns the list of all signed price turnings that bar the model, in order."""
    return [row for row in signed_prices(model.book) if bars(row, model.box)]


def check_bars(rows, box):
    """Raises NoAnswer with the first of the signed price turnings that bars the box."""
    row = first_bar(rows, box)
    if row is not None:
        raise NoAnswer(row)
