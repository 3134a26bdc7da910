"""Bounds that clash, and the bounds that can be given up to repair a model."""

from itertools import combinations

from fineststep.barring import all_bars
from fineststep.checks import check_cell, check_narrow
from fineststep.errors import BadClash, BadSide, NoEnd, TooMany
from fineststep.models import with_box
from fineststep.rows import support

MOST_BOUNDS = 10


def least_clashes(model):
    """Returns the list of the least clashes in the order of their signed price turnings."""
    return [bounds_used(row) for row in all_bars(model)]


def bounds_used(row):
    """Returns the bounds whose ends the row uses, in ascending order of cells."""
    return [(cell, "high" if row[cell] > 0 else "low") for cell in support(row)]


def clash_row(model, clash):
    """Returns the signed price turning that bars the model and uses just the bounds of a least clash."""
    check_narrow(model.book)
    for cell, side in clash:
        check_bound(model, cell, side)
    wanted = sorted(set(clash))
    for row in all_bars(model):
        if bounds_used(row) == wanted:
            return row
    raise BadClash("the bounds are not a least clash")


def check_bound(model, cell, side):
    """Raises NoCell, and then BadSide, for what is no bound of any model of the book."""
    check_cell(model.book, cell)
    if side not in ("low", "high"):
        raise BadSide("a side is neither low nor high")


def only_bounds(model, bounds):
    """Returns the model with only the bounds in the list."""
    for cell, side in bounds:
        check_bound(model, cell, side)
        low, high = model.box[cell]
        if (low if side == "low" else high) is None:
            raise NoEnd(cell)
    return with_box(model, [(low if (cell, "low") in bounds else None, high if (cell, "high") in bounds else None)
                            for cell, (low, high) in enumerate(model.box)])


def repairs(model):
    """Returns the list of all least repairs, those with fewer bounds first."""
    clashes = least_clashes(model)
    bounds = sorted({bound for clash in clashes for bound in clash})
    if len(bounds) > MOST_BOUNDS:
        raise TooMany(len(bounds))
    found = []
    for many in range(len(bounds) + 1):
        for chosen in combinations(bounds, many):
            if hits_all(chosen, clashes) and not any([holds_all(chosen, known) for known in found]):
                found.append(list(chosen))
    return found


def hits_all(chosen, clashes):
    """Returns True if each clash has a bound that is chosen, otherwise False."""
    return all([any([bound in chosen for bound in clash]) for clash in clashes])


def holds_all(chosen, known):
    """Returns True if all the known bounds are chosen, otherwise False."""
    return all([bound in chosen for bound in known])
