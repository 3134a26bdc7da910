"""Models: a book with a range and a price for each cell, and marks."""

from fineststep.books import is_table, same_book
from fineststep.checks import check_cell, check_cells, check_size, check_table
from fineststep.ends import all_within, check_full, has_whole_ends
from fineststep.errors import NotAnswer, NotWhole
from fineststep.exact import is_whole
from fineststep.rows import dot


class Model:
    """A model with its book, its box, its prices and its marks."""

    def __init__(self, book, box, *, prices=None, marks=()):
        check_box(book, box)
        if prices is not None:
            check_size(book, prices)
        check_cells(book, marks)
        for cell in marks:
            check_whole_ends(box[cell])
        self.book = book
        self.box = tuple([(low, high) for low, high in box])
        self.prices = (0,) * book.size if prices is None else tuple(prices)
        self.marks = tuple(sorted(set(marks)))


def check_box(book, box):
    """Raises BadSize, and then EmptyRange with the first cell whose range is empty."""
    check_size(book, box)
    check_full(box)


def check_whole_ends(ends):
    """Raises NotWhole if an end of the range is a pair."""
    low, high = ends
    if not has_whole_ends(low, high):
        raise NotWhole("an end of a marked cell is not whole")


def is_answer(model, numbers):
    """Returns True if the list of numbers is an answer, otherwise False."""
    return is_table(model.book, numbers) and all_within(numbers, model.box)


def check_answer(model, numbers):
    """Raises BadSize, NotTable, and then NotAnswer, unless the list of numbers is an answer."""
    check_table(model.book, numbers)
    if not all_within(numbers, model.box):
        raise NotAnswer("a number of the table is out of its range")


def is_whole_answer(model, numbers):
    """Returns True if the list of numbers is a whole answer, otherwise False."""
    return is_answer(model, numbers) and all([is_whole(numbers[cell]) for cell in model.marks])


def check_whole_answer(model, numbers):
    """Raises BadSize, NotTable, NotAnswer, and then NotWhole, unless the list of numbers is a whole answer."""
    check_answer(model, numbers)
    if not is_whole_answer(model, numbers):
        raise NotWhole("a number at a marked cell is not whole")


def price_of(model, numbers):
    """Returns the price of the list of numbers."""
    check_size(model.book, numbers)
    return dot(model.prices, numbers)


def same_model(first, second):
    """Returns True if the two models have the same book, box, prices and marks, otherwise False."""
    if not same_book(first.book, second.book):
        return False
    return first.box == second.box and first.prices == second.prices and first.marks == second.marks


def with_box(model, box):
    """Returns the model with another box."""
    return Model(model.book, box, prices=model.prices, marks=model.marks)


def with_range(model, cell, low, high):
    """Returns the model with another range at the cell."""
    check_cell(model.book, cell)
    return with_box(model, with_item(model.box, cell, (low, high)))


def with_price(model, cell, price):
    """Returns the model with another price at the cell."""
    check_cell(model.book, cell)
    prices = with_item(model.prices, cell, price)
    return Model(model.book, model.box, prices=prices, marks=model.marks)


def with_mark(model, cell, marked):
    """Returns the model in which the cell is marked if `marked` is True, otherwise not marked."""
    check_cell(model.book, cell)
    marks = [mark for mark in model.marks if mark != cell]
    if marked:
        marks.append(cell)
    return Model(model.book, model.box, prices=model.prices, marks=marks)


def with_item(items, at, item):
    """Returns the list of the items with another one at the index."""
    changed = list(items)
    changed[at] = item
    return changed
