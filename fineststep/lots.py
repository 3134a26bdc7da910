"""Lots: papers with chances, whose mean is a table."""

from fineststep.checks import check_table
from fineststep.errors import BadLot
from fineststep.exact import less, plus
from fineststep.roundings import lies_around
from fineststep.rows import added, scaled


def lot_mean(lot):
    """Returns the sum of the papers, each multiplied by its chance."""
    check_lot(lot)
    return mean_of(lot)


def check_lot(lot):
    """Raises BadLot if the lot is empty."""
    if not lot:
        raise BadLot("the lot is empty")


def mean_of(lot):
    """Returns the mean of a lot that is not empty."""
    total = [0] * len(lot[0][0])
    for paper, chance in lot:
        total = added(total, scaled(paper, chance))
    return total


def chances_of(lot):
    """Returns the sum of all chances."""
    total = 0
    for _, chance in lot:
        total = plus(total, chance)
    return total


def is_lot(book, table, lot):
    """Returns True if the lot is a lot of the table, otherwise False."""
    check_table(book, table)
    if not all([lies_around(book, paper, table) and less(0, chance) for paper, chance in lot]):
        return False
    if len({tuple(paper) for paper, _ in lot}) < len(lot) or chances_of(lot) != 1:
        return False
    return mean_of(lot) == list(table)
