"""What shows an answer, or that there is none: each is checked by adding and multiplying."""

from fineststep.barring import bars
from fineststep.books import is_table
from fineststep.checks import check_size
from fineststep.ends import end_toward
from fineststep.exact import less, minus
from fineststep.models import is_answer
from fineststep.rows import dot
from fineststep.sides import is_price


def shows_none(model, row):
    """Returns True if the row shows that there is no answer, otherwise False."""
    return is_price(model.book, row) and bars(row, model.box)


def shows_best(model, numbers, reduced):
    """Returns True if the reduced prices show that the numbers are a best answer, otherwise False."""
    check_size(model.book, numbers)
    check_size(model.book, reduced)
    rest = [minus(price, number) for price, number in zip(model.prices, reduced)]
    if not is_answer(model, numbers) or not is_price(model.book, rest):
        return False
    return all([is_held(number, ends, pull) for number, ends, pull in zip(numbers, model.box, reduced)])


def is_held(number, ends, reduced):
    """Returns True if the number stands at the end of its range that its reduced price asks for, otherwise False."""
    low, high = ends
    if less(0, reduced):
        return number == low
    return reduced == 0 or number == high


def shows_unbounded(model, numbers, turning):
    """Returns True if the numbers are an answer from which the turning shows that there is no least price."""
    check_size(model.book, numbers)
    check_size(model.book, turning)
    if not is_answer(model, numbers) or not is_table(model.book, turning):
        return False
    return less(dot(model.prices, turning), 0) and runs_free(turning, model.box)


def runs_free(row, box):
    """Returns True if the row meets no end: each number is 0, or the box has no end on its side."""
    for number, (low, high) in zip(row, box):
        if number != 0 and end_toward(number, low, high) is not None:
            return False
    return True
