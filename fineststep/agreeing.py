"""Tables as sums of turnings that agree with them."""

from fineststep.checks import check_narrow, check_table
from fineststep.exact import least_of, minus, over
from fineststep.rows import added, agrees, negative, scaled, support
from fineststep.turnings import turnings


def agreeing_parts(book, table):
    """Returns the agreeing parts of the table as a list of tuples (row, times)."""
    check_narrow(book)
    check_table(book, table)
    parts = []
    rest = list(table)
    # The rest only ever loses cells, so a turning that is passed over, or used, never agrees with it again.
    for turning in turnings(book):
        for row in (turning, negative(turning)):
            if agrees(row, rest):
                times = least_of([over(rest[cell], row[cell]) for cell in support(row)])
                parts.append((row, times))
                rest = added(rest, scaled(row, minus(0, times)))
    return parts


def put_together(size, parts):
    """Returns the sum of the rows of the parts, each multiplied by its times."""
    total = [0] * size
    for row, times in parts:
        total = added(total, scaled(row, times))
    return total
