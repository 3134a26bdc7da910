"""The finest step of a book."""

from math import lcm

from fineststep.checks import check_narrow
from fineststep.errors import CoarseBook
from fineststep.turnings import turnings


def steps(book):
    """Returns the ascending list of the steps of all turnings, without duplicates."""
    check_narrow(book)
    return sorted({abs(number) for row in turnings(book) for number in row if number != 0})


def finest_step(book):
    """Returns the least common multiple of the steps, 1 if there is none."""
    common = 1
    for step in steps(book):
        common = lcm(common, step)
    return common


def check_fine(book):
    """Raises CoarseBook with the finest step of a narrow book if it is not 1."""
    step = finest_step(book)
    if step != 1:
        raise CoarseBook(step)
