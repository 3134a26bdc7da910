"""Books that are made from stretches and from nests of sets of entries."""

from fineststep.books import Book, unit
from fineststep.errors import BadStretch, Crossing, NoCell


def stretch_book(names, stretches):
    """Returns the book of these entries, with a sum for each stretch of them."""
    many = len(names)
    for _, first, last in stretches:
        if not 0 <= first <= last < many:
            raise BadStretch("a stretch does not lie within the entries")
    sums = [(name, list(range(first, last + 1))) for name, first, last in stretches]
    return book_of(names, sums)


def nest_book(names, first, second):
    """Returns the book of these entries, with a sum for each set of the two nests."""
    check_numbers(names, first)
    check_numbers(names, second)
    check_nest(first)
    check_nest(second)
    return book_of(names, list(first) + list(second))


def book_of(names, sums):
    """Returns the book of these entries, with a sum for each tuple of a name and a list of entries."""
    all_names = list(names) + [name for name, _ in sums]
    rows = []
    for entry in range(len(names)):
        rows.append(unit(len(names), entry) + [int(entry in numbers) for _, numbers in sums])
    return Book(all_names, rows)


def check_numbers(names, nest):
    """Raises NoCell with the first number in the sets of the nest that is no entry."""
    for _, numbers in nest:
        for number in numbers:
            if not 0 <= number < len(names):
                raise NoCell(number)


def check_nest(nest):
    """Raises Crossing if two sets of the nest cross."""
    for _, numbers in nest:
        for _, others in nest:
            if do_cross(numbers, others):
                raise Crossing("two sets of a nest cross")


def do_cross(first, second):
    """Returns True if the sets share a number and neither contains the other, otherwise False."""
    shared = [number for number in first if number in second]
    if not shared:
        return False
    return any([number not in second for number in first]) and any([number not in first for number in second])
