"""The determinant of a matrix of whole numbers."""

from fineststep.clearing import lead_at


def determinant(matrix):
    """Returns the determinant, 1 for the matrix without rows."""
    rows = [list(row) for row in matrix]
    sign, last = 1, 1
    while rows:
        at = lead_at(rows, 0)
        if at is None:
            return 0
        if at % 2 == 1:
            sign = -sign
        lead = rows[at]
        rows = [without_first(row, lead, last) for row in rows[:at] + rows[at + 1:]]
        last = lead[0]
    return sign * last


def without_first(row, lead, last):
    """Returns the row without its first column, which a multiple of the lead makes 0.

    Dividing by the lead number of the step before leaves no rest, and keeps the numbers small.
    """
    return [(x * lead[0] - y * row[0]) // last for x, y in zip(row[1:], lead[1:])]
