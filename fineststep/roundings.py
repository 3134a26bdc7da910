"""Roundings: the whole tables around a table."""

from fineststep.books import is_table
from fineststep.boxes import around
from fineststep.checks import check_narrow, check_table
from fineststep.ends import all_within
from fineststep.exact import is_whole, nearest
from fineststep.kths import kth_answers
from fineststep.models import Model
from fineststep.picks import pick_answer


def roundings(book, table):
    """Yields all roundings of the table in ascending order."""
    check_table(book, table)
    # Two whole numbers are tried at each entry that is not whole. So from ten such entries on this raises TooMany.
    rows = kth_answers(Model(book, around(table)), 1)
    for row in rows:
        yield row


def count_roundings(book, table):
    """Returns the number of the roundings of the table."""
    return len(list(roundings(book, table)))


def show_table(book, table):
    """Returns the table around the table whose numbers are nearest in turn to its nearest whole numbers."""
    check_narrow(book)
    check_table(book, table)
    return pick_answer(Model(book, around(table)), toward=[nearest(number) for number in table])


def lies_around(book, numbers, table):
    """Returns True if the list of numbers is a table of the book around the table, otherwise False."""
    return len(numbers) == book.size and is_table(book, numbers) and all_within(numbers, around(table))


def is_rounding(book, numbers, table):
    """Returns True if the list of numbers is a rounding of the table, otherwise False."""
    return lies_around(book, numbers, table) and all([is_whole(number) for number in numbers])
