"""Moves: from one whole answer to others, a turning at a time."""

from fineststep.agreeing import agreeing_parts
from fineststep.checks import check_narrow
from fineststep.ends import all_within
from fineststep.errors import TooMany
from fineststep.exact import less
from fineststep.finest import check_fine
from fineststep.models import check_answer
from fineststep.rests import check_whole
from fineststep.rows import added, dot, negative
from fineststep.turnings import signed_turnings

MOST_MOVES = 200


def walk_between(model, start, end):
    """Returns the walk from one whole answer to another, a list of tables."""
    check_narrow(model.book)
    check_whole_table(model, start)
    check_whole_table(model, end)
    check_fine(model.book)
    parts = agreeing_parts(model.book, added(end, negative(start)))
    many = sum([often for _, often in parts])
    if many > MOST_MOVES:
        raise TooMany(many)
    walk = [list(start)]
    for row, often in parts:
        for _ in range(often):
            walk.append(added(walk[-1], row))
    return walk


def check_whole_table(model, numbers):
    """Raises BadSize, NotTable, NotAnswer, and then NotWhole, unless the numbers are an answer and all whole."""
    check_answer(model, numbers)
    check_whole(numbers)


def cheaper_move(model, answer):
    """Returns the first signed turning with a price below 0 that leads to an answer, or None."""
    check_narrow(model.book)
    check_whole_table(model, answer)
    check_fine(model.book)
    for row in signed_turnings(model.book):
        if less(dot(model.prices, row), 0) and all_within(added(answer, row), model.box):
            return row
    return None
