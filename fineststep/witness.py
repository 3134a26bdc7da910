"""Witnesses: turnings that show that a finest step does not divide a whole number."""

from fineststep.boxes import around
from fineststep.checks import check_cell, check_narrow, check_size
from fineststep.errors import BadStep
from fineststep.exact import ratio
from fineststep.rows import primitive
from fineststep.turnings import is_turning, turnings


def step_witness(book, k):
    """Returns the first witness of the book against k, a tuple (turning, cell), or None."""
    check_narrow(book)
    check_step(k)
    for row in turnings(book):
        for cell, number in enumerate(row):
            if is_against(number, k):
                return (row, cell)
    return None


def check_step(k):
    """Raises BadStep if k is below 1."""
    if k < 1:
        raise BadStep("the number is below 1")


def is_against(number, k):
    """Returns True if the number of a turning is a step that does not divide k, otherwise False."""
    return number != 0 and k % number != 0


def witness_table(witness):
    """Returns the turning of the witness, divided by its step at the cell."""
    turning, cell = witness
    return [ratio(number, abs(turning[cell])) for number in turning]


def witness_box(witness):
    """Returns the box around the table of the witness."""
    return around(witness_table(witness))


def witness_holds(book, witness, k):
    """Returns True if the tuple is a witness of the book against k, otherwise False."""
    turning, cell = witness
    check_step(k)
    check_size(book, turning)
    check_cell(book, cell)
    if not is_turning(book, turning) or primitive(turning) != list(turning):
        return False
    return is_against(turning[cell], k)
