"""Whole rows with stairs: each row has its first number, which is above 0, at a later place than the rows before it."""

from fineststep.exact import common_bottom, times
from fineststep.rows import dot


def made_whole(rows, factors):
    """Returns rows whose sums of whole multiples are just those of the rows whose dot with the factors is whole.

    Row k has its stair at k, and so have the rows that are returned. In these the number at each later stair is at
    least 0 and below the number that the row of that stair has there.
    """
    bottom = common_bottom(factors)
    tops = [times(factor, bottom) for factor in factors]
    # Up to multiples of the bottom, the carrier's dot with the tops is `common`, and those of all rows that have been
    # gone through are multiples of `common`.
    common, carrier, found = bottom, [0] * len(factors), []
    for k in range(len(rows) - 1, -1, -1):
        number = dot(rows[k], tops) % bottom
        divisor, often, more = bezout(number, common)
        first = combined(rows[k], common // divisor, carrier, -(number // divisor))
        found = [lowered_by(first, found, k + 1)] + found
        carrier = lowered_by(combined(rows[k], often, carrier, more), found, k)
        common = divisor
    return found


def bezout(first, second):
    """Returns a tuple (d, x, y): the greatest common divisor d of two whole numbers is x times the first plus y times
    the second. The second number is above 0.
    """
    here, often, more = first, 1, 0
    following, next_often, next_more = second, 0, 1
    while following != 0:
        quotient = here // following
        here, following = following, here - quotient * following
        often, next_often = next_often, often - quotient * next_often
        more, next_more = next_more, more - quotient * next_more
    return (here, often, more)


def combined(first, often, second, more):
    """Returns the sum of two whole rows, each multiplied by a whole number."""
    return [often * x + more * y for x, y in zip(first, second)]


def lowered_by(row, rows, stair):
    """Returns the row less multiples of the rows, the first of which has its stair here, with small numbers there."""
    found = row
    for k, other in enumerate(rows):
        found = combined(found, 1, other, -(found[stair + k] // other[stair + k]))
    return found
