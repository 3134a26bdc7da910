"""The least width by which the ranges of a model must be widened so that it has an answer."""

from fineststep.barring import all_bars
from fineststep.boxes import check_weights, worth_over
from fineststep.checks import check_narrow, check_size
from fineststep.exact import greatest_of, minus, over
from fineststep.rows import dot


def least_width(model, weights):
    """Returns the least width for the weights, None if there is none."""
    return greatest_width(needed_widths(model, weights))


def width_row(model, weights):
    """Returns the first signed price turning that needs the least width, or that no width helps, None if none bars."""
    needed = needed_widths(model, weights)
    least = greatest_width(needed)
    for row, width in needed:
        if width == least:
            return row
    return None


def needed_widths(model, weights):
    """Returns a tuple (row, width) for each signed price turning that bars; the width is None if none helps it."""
    check_narrow(model.book)
    check_size(model.book, weights)
    check_weights(weights)
    return [(row, width_needed(row, model.box, weights)) for row in all_bars(model)]


def width_needed(row, box, weights):
    """Returns the width with which the greatest worth of a row that bars the box is 0, or None."""
    pull = dot([abs(number) for number in row], weights)
    return None if pull == 0 else over(minus(0, worth_over(row, box)), pull)


def greatest_width(needed):
    """Returns the greatest of the widths that are needed, 0 if there is none, None if no width helps."""
    widths = [width for _, width in needed]
    return None if None in widths else greatest_of([0] + widths)
