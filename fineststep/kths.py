"""Answers whose numbers are whole if they are multiplied by k."""

from fineststep.books import pivots, table_of
from fineststep.ends import all_within
from fineststep.errors import NoEnd, TooMany
from fineststep.exact import bottom_of, ceiling_of, floor_of, ratio, times
from fineststep.witness import check_step

MOST_CANDIDATES = 1000


def is_kth(numbers, k):
    """Returns True if k times each number is whole, otherwise False."""
    check_step(k)
    return all([k % bottom_of(number) == 0 for number in numbers])


def kth_answers(model, k):
    """Returns the list of all answers of k-ths in ascending order."""
    check_step(k)
    found = []
    # Tables are in the order of their numbers at the entries: the first cell at which two of them differ is an entry.
    for values in candidates(model, k):
        table = table_of(model.book, values)
        if is_kth(table, k) and all_within(table, model.box):
            found.append(table)
    return found


def first_kth(model, k):
    """Returns the first answer of k-ths, None if there is none."""
    found = kth_answers(model, k)
    return found[0] if found else None


def candidates(model, k):
    """Returns the lists of k-ths in the ranges of the entries, in ascending order."""
    ends = [model.box[entry] for entry in pivots(model.book)]
    for entry, (low, high) in zip(pivots(model.book), ends):
        if low is None or high is None:
            raise NoEnd(entry)
    tops = [(ceiling_of(times(low, k)), floor_of(times(high, k))) for low, high in ends]
    many = 1
    for first, last in tops:
        many *= max(0, last - first + 1)
    if many > MOST_CANDIDATES:
        raise TooMany(many)
    # Without this, a long range beside one that has no k-th would be gone through.
    if many == 0:
        return []
    found = [[]]
    for first, last in tops:
        found = [values + [ratio(top, k)] for values in found for top in range(first, last + 1)]
    return found
