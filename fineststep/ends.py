"""Ranges of numbers: tuples of a low and a high end, where None means that there is no bound."""

from fineststep.errors import EmptyRange
from fineststep.exact import greatest_of, is_whole, least_of, less


def is_empty(low, high):
    """Returns True if the low end is above the high end, otherwise False."""
    return low is not None and high is not None and less(high, low)


def is_fixed(low, high):
    """Returns True if both ends are numbers and equal, otherwise False."""
    return low is not None and low == high


def lies_within(number, low, high):
    """Returns True if the number is not below the low end and not above the high end, otherwise False."""
    return not is_empty(low, number) and not is_empty(number, high)


def has_whole_ends(low, high):
    """Returns True if each end that is a number is whole, otherwise False."""
    return all([end is None or is_whole(end) for end in (low, high)])


def check_full(box):
    """Raises EmptyRange with the first cell whose range is empty."""
    for cell, (low, high) in enumerate(box):
        if is_empty(low, high):
            raise EmptyRange(cell)


def all_within(numbers, box):
    """Returns True if each number lies in the range at its index, otherwise False."""
    return all([lies_within(number, low, high) for number, (low, high) in zip(numbers, box)])


def tightest(lows, highs):
    """Returns the range of the numbers that no low is above and no high is below; None among them is no bound."""
    return (greatest_of(given(lows)), least_of(given(highs)))


def end_toward(number, low, high):
    """Returns the end of the range on the side of the sign of a number that is not 0."""
    return high if less(0, number) else low


def given(ends):
    """Returns the list of the ends that are numbers."""
    return [end for end in ends if end is not None]


def pulled(number, low, high):
    """Returns the number of the range that is nearest to the number."""
    if is_empty(low, number):
        return low
    return high if is_empty(number, high) else number
