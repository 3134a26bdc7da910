"""Boxes: lists of ranges, one for each cell."""

from fineststep.ends import all_within, check_full, end_toward, tightest
from fineststep.errors import BadSize, BadWeight
from fineststep.exact import ceiling_of, floor_of, less, minus, plus, times


def around(numbers):
    """Returns the box around the numbers."""
    return [(floor_of(number), ceiling_of(number)) for number in numbers]


def inside(box, numbers):
    """Returns True if each number lies in the range at its index, otherwise False."""
    check_lengths(box, numbers)
    check_full(box)
    return all_within(numbers, box)


def meet(first, *others):
    """Returns the meet of one or more boxes."""
    boxes = [first] + list(others)
    for other in boxes:
        check_lengths(first, other)
        check_full(other)
    met = [range_in_all(boxes, cell) for cell in range(len(first))]
    check_full(met)
    return met


def range_in_all(boxes, cell):
    """Returns the range of the numbers that lie in the range of the cell in all boxes; it may be empty."""
    return tightest([box[cell][0] for box in boxes], [box[cell][1] for box in boxes])


def widened(box, weights, width):
    """Returns the box with its ends moved apart by the width times the weight of their cell."""
    check_lengths(box, weights)
    check_full(box)
    check_weights(list(weights) + [width])
    moves = [times(width, weight) for weight in weights]
    return [(moved(low, minus(0, move)), moved(high, move)) for (low, high), move in zip(box, moves)]


def greatest_worth(row, box):
    """Returns the greatest worth of the row over the box, a number or None."""
    check_lengths(row, box)
    check_full(box)
    return worth_over(row, box)


def worth_over(row, box):
    """Returns the greatest worth of the row over a box of the same length without an empty range."""
    total = 0
    for number, (low, high) in zip(row, box):
        if number != 0:
            end = end_toward(number, low, high)
            if end is None:
                return None
            total = plus(total, times(number, end))
    return total


def check_lengths(first, second):
    """Raises BadSize if the two lists have different lengths."""
    if len(first) != len(second):
        raise BadSize("two lists have different lengths")


def check_weights(weights):
    """Raises BadWeight if a number is below 0."""
    for weight in weights:
        if less(weight, 0):
            raise BadWeight("a weight or the width is below 0")


def moved(end, move):
    """Returns the end plus the move, None if there is no end."""
    return None if end is None else plus(end, move)
