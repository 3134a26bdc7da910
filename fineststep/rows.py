"""Rows: lists of numbers, one for each cell."""

from math import gcd

from fineststep.exact import bottom_of, common_bottom, less, minus, plus, times, top_of


def support(numbers):
    """Returns the ascending list of the indexes at which the list is not 0."""
    return [k for k, number in enumerate(numbers) if number != 0]


def agrees(first, second):
    """Returns True if the first list has, where it is not 0, the signs of the second one."""
    return all([top_of(x) * top_of(y) > 0 for x, y in zip(first, second) if x != 0])


def dot(first, second):
    """Returns the sum of the products at the same index."""
    total = 0
    for x, y in zip(first, second):
        total = plus(total, times(x, y))
    return total


def negative(numbers):
    """Returns the list with every sign turned."""
    return [minus(0, number) for number in numbers]


def with_negatives(rows):
    """Returns the list of the rows, each one directly before its negative."""
    return [row for first in rows for row in (first, negative(first))]


def scaled(numbers, factor):
    """Returns the list with every number multiplied by the factor."""
    return [times(number, factor) for number in numbers]


def added(first, second):
    """Returns the list of the sums at the same index."""
    return [plus(x, y) for x, y in zip(first, second)]


def before(first, second):
    """Returns True if the first list comes before the second one, which may have another length."""
    for x, y in zip(first, second):
        if x != y:
            return less(x, y)
    return len(first) < len(second)


def ascending(lists):
    """Returns the lists of numbers, which have one length, in their order and each one once."""
    bottom = common_bottom([number for numbers in lists for number in numbers])
    found = {tuple(scaled(numbers, bottom)): numbers for numbers in lists}
    return [found[key] for key in sorted(found)]


def primitive(numbers):
    """Returns the primitive row of the list."""
    bottom = common_bottom(numbers)
    return lowest([top_of(number) * (bottom // bottom_of(number)) for number in numbers])


def lowest(row):
    """Returns the primitive row of a whole row."""
    common = 0
    for number in row:
        common = gcd(common, number)
    for number in row:
        if number != 0:
            divisor = common if number > 0 else -common
            return [x // divisor for x in row]
    return list(row)
