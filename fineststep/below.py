"""Runs from below: each stand is priced, and the last one has an answer or shows that there is none."""

from fineststep.books import pivots
from fineststep.errors import NoStart, NotPriced
from fineststep.exact import least_of, less, over, size_of
from fineststep.outcomes import outcome_at
from fineststep.scenes import Scene, ending, goal_row
from fineststep.stands import is_priced, loose_cells, reduced_at, words_at
from fineststep.stepping import swapped


def below_start(model):
    """Returns the start from below."""
    basis = tuple(pivots(model.book))
    reduced = reduced_at(model.book, basis, model.prices)
    return (basis, tuple([start_word(model, cell, reduced[cell]) for cell in basis]))


def start_word(model, cell, reduced):
    """Returns the word with which an entry with this reduced price may not be let go."""
    words = words_at(model, cell)
    if reduced == 0:
        return words[0]
    word = "low" if less(0, reduced) else "high"
    if word not in words:
        raise NoStart(cell)
    return word


def below_step(model, stand):
    """Returns a tuple (swap, next stand, row), or (kind, same stand, row) if there is no step from below."""
    check_priced(model, stand)
    return below_made(model, stand)


def check_priced(model, stand):
    """Raises BadStand, and then NotPriced, unless the stand is a priced one of the model."""
    if not is_priced(model, stand):
        raise NotPriced("a cell of the basis may be let go")


def below_made(model, stand):
    """Returns the same for a priced stand of the model."""
    basis = stand[0]
    scene = Scene(model, stand)
    pulls = reduced_at(model.book, basis, scene.prices)
    candidates = [] if scene.goal is None else loose_cells(model, stand, pulls)
    if not candidates:
        kind, row = ending(model, stand, scene)
        return (kind, stand, row)
    reduced = reduced_at(model.book, basis, model.prices)
    quotients = [size_of(over(reduced[cell], pulls[cell])) for cell in candidates]
    cell = candidates[quotients.index(least_of(quotients))]
    return ("swap", swapped(stand, cell, scene.goal, scene.word), goal_row(model.book, basis, scene.goal))


def from_below(model, stand):
    """Returns the outcome of the run from below from the stand."""
    check_priced(model, stand)
    many = 0
    kind, here, row = below_made(model, stand)
    while kind == "swap":
        many += 1
        kind, here, row = below_made(model, here)
    return outcome_at(model, kind, here, row, many)
