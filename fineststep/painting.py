"""Cells are coloured, and either a turning or a price turning keeps the colours."""

from fineststep.checks import check_cell, check_narrow, check_size
from fineststep.errors import BadColour
from fineststep.rows import negative
from fineststep.sides import price_turnings
from fineststep.turnings import turnings

COLOURS = ("free", "up", "shut")


def paint(book, cell, colours):
    """Returns ("here", turning) or ("there", price turning), whichever keeps the colours."""
    check_narrow(book)
    check_cell(book, cell)
    check_size(book, colours)
    for other, colour in enumerate(colours):
        if other != cell and colour not in COLOURS:
            raise BadColour("a cell has none of the three colours")
    row = first_keeping(list(turnings(book)), cell, colours, "shut")
    if row is not None:
        return ("here", row)
    return ("there", first_keeping(price_turnings(book), cell, colours, "free"))


def first_keeping(rows, cell, colours, zero):
    """Returns the first row that, signed to be above 0 at the cell, keeps the colours, or None."""
    for row in rows:
        signed = negative(row) if row[cell] < 0 else row
        if keeps(signed, cell, colours, zero):
            return signed
    return None


def keeps(row, cell, colours, zero):
    """Returns True if the row keeps the colours, where it must be 0 at the colour `zero`, otherwise False."""
    if row[cell] <= 0:
        return False
    others = [(number, colours[other]) for other, number in enumerate(row) if other != cell]
    return all([may_stand(number, colour, zero) for number, colour in others])


def may_stand(number, colour, zero):
    """Returns True if the number may stand at a cell of this colour, otherwise False."""
    if number == 0:
        return True
    return colour != zero and (colour != "up" or number > 0)
