"""Whole answers with the lowest price, for models all cells of which are sure to be whole."""

from fineststep.books import pivots
from fineststep.checks import check_narrow, check_size
from fineststep.ends import all_within, is_empty
from fineststep.errors import MixedModel, NoEnd
from fineststep.exact import ceiling_of, floor_of, less, minus, plus
from fineststep.models import check_whole_answer
from fineststep.rows import added, dot, with_negatives
from fineststep.running import solve
from fineststep.wholes import check_few, greatest_steps, whole_rows, whole_tables


def sure_whole(model):
    """Returns the ascending list of the sure whole cells."""
    entries = pivots(model.book)
    settled = all([entry in model.marks for entry in entries])
    return [cell for cell in range(model.book.size)
            if cell in model.marks or settled and has_whole_factors(model.book, entries, cell)]


def has_whole_factors(book, entries, cell):
    """Returns True if whole numbers at the entries always give a whole number at the cell, otherwise False."""
    return all([row[cell] % row[entry] == 0 for row, entry in zip(book.frame, entries)])


def is_whole_model(model):
    """Returns True if all cells of the model are sure whole, otherwise False."""
    return len(sure_whole(model)) == model.book.size


def check_whole_model(model):
    """Raises MixedModel with the first cell that is not sure whole."""
    known = sure_whole(model)
    for cell in range(model.book.size):
        if cell not in known:
            raise MixedModel(cell)


def distance(model, numbers):
    """Returns how far the numbers are out of their ranges, all together."""
    check_size(model.book, numbers)
    total = 0
    for number, (low, high) in zip(numbers, model.box):
        if is_empty(low, number):
            total = plus(total, minus(low, number))
        elif is_empty(number, high):
            total = plus(total, minus(number, high))
    return total


def cheaper_whole(model, answer):
    """Returns the first signed whole turning with a price below 0 that leads to an answer, or None."""
    check_narrow(model.book)
    check_whole_model(model)
    check_whole_answer(model, answer)
    check_few(model.book)
    for row in with_negatives(whole_rows(model.book)):
        if less(dot(model.prices, row), 0) and all_within(added(answer, row), model.box):
            return row
    return None


def whole_answer(model):
    """Returns a whole answer, None if there is none."""
    found = lowest_whole(model)
    return None if found is None else found[1]


def lowest_whole(model):
    """Returns a tuple (price, table) of a lowest whole answer, None if there is no whole answer."""
    check_narrow(model.book)
    check_whole_model(model)
    for cell in model.marks:
        if None in model.box[cell]:
            raise NoEnd(cell)
    check_few(model.book)
    lowest = None
    for table in whole_answers_near(model):
        price = dot(model.prices, table)
        if lowest is None or less(price, lowest[0]):
            lowest = (price, table)
    return lowest


def whole_answers_near(model):
    """Returns whole answers, a lowest one among them if there are any; all entries have both ends.

    What leads from a best answer to a lowest whole answer is a sum of multiples of turnings that agree with it, at
    most as many as entries. None of them has a price below 0, so each can be taken back as often as is whole. Then
    less than once of each is left, and this leads to a lowest whole answer, too.
    """
    end = solve(model)
    if end.kind == "none":
        return []
    entries, steps = pivots(model.book), greatest_steps(model.book)
    ends = [ends_near(end.table[entry], len(entries) * steps[entry], model.box[entry]) for entry in entries]
    return [table for table in whole_tables(model.book, ends) if all_within(table, model.box)]


def ends_near(number, far, ends):
    """Returns the least and the greatest whole number of the range that are nearer to the number than `far`."""
    low, high = ends
    return (max(low, floor_of(number) - far + 1), min(high, ceiling_of(number) + far - 1))
