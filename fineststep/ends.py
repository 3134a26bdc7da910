"""Ranges of numbers: tuples of a low and a high end, where None means that there is no bound."""

from fineststep.exact import is_whole, less


def is_empty(low, high):
    """Returns True if the low end is above the high end, otherwise False."""
    return low is not None and high is not None and less(high, low)


def lies_within(number, low, high):
    """Returns True if the number is not below the low end and not above the high end, otherwise False."""
    return not is_empty(low, number) and not is_empty(number, high)


def has_whole_ends(low, high):
    """Returns True if each end that is a number is whole, otherwise False."""
    return all([end is None or is_whole(end) for end in (low, high)])
