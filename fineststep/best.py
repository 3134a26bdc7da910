"""Best answers: whether an answer is one, the least price, and all of them."""

from fineststep.checks import check_narrow, check_table
from fineststep.errors import NoAnswer, NoLeast
from fineststep.exact import least_of, less
from fineststep.models import check_answer, with_box
from fineststep.ranges import ranges
from fineststep.rows import dot
from fineststep.running import solve
from fineststep.scenes import limits_along
from fineststep.turnings import signed_turnings


def cheaper_turning(model, answer):
    """Returns the first signed turning that can be gone from the answer and has a price below 0, or None."""
    check_narrow(model.book)
    check_answer(model, answer)
    for row in ways_to_go(model, answer):
        if less(dot(model.prices, row), 0):
            return row
    return None


def ways_to_go(model, answer):
    """Returns the list of the signed turnings that can be gone from the answer, in order."""
    return [row for row in signed_turnings(model.book) if can_be_gone(row, answer, model.box)]


def can_be_gone(row, answer, box):
    """Returns True if no cell where the row is not 0 is at the end of its range in this direction, otherwise False."""
    return all([limit != 0 for _, limit in limits_along(row, answer, box)])


def how_far(model, answer, turning):
    """Returns the greatest t for which the answer plus t times the turning is an answer, None if there is none."""
    check_answer(model, answer)
    check_table(model.book, turning)
    return least_of([limit for _, limit in limits_along(turning, answer, model.box)])


def best_price(model):
    """Returns the least price."""
    return best_outcome(model).price


def best_outcome(model):
    """Returns the outcome of the run by the rule first; raises NoAnswer and NoLeast if it is not best."""
    end = solve(model)
    if end.kind == "none":
        raise NoAnswer(list(end.row))
    if end.kind == "unbounded":
        raise NoLeast(list(end.row))
    return end


def best_box(model):
    """Returns the model whose answers are the best answers of the model."""
    reduced = best_outcome(model).row
    return with_box(model, [held_range(low, high, price) for (low, high), price in zip(model.box, reduced)])


def held_range(low, high, reduced):
    """Returns the range that best answers have at a cell with this range and this reduced price."""
    if reduced == 0:
        return (low, high)
    return (low, low) if less(0, reduced) else (high, high)


def best_ranges(model):
    """Returns the ranges of all cells over all best answers."""
    check_narrow(model.book)
    return ranges(best_box(model))
