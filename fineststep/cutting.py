"""Cut runs: cuts are added to a model until its best answer is whole."""

from fineststep.below import from_below
from fineststep.books import MOST_CELLS
from fineststep.cuts import cut_at, with_cut
from fineststep.errors import NoLeast
from fineststep.exact import is_whole
from fineststep.lowering import check_whole_model
from fineststep.running import solve


def cut_run(model, names):
    """Returns a tuple of the last outcome, the model with all cuts, and the list of the cuts."""
    check_whole_model(model)
    end = solve(model)
    if end.kind == "unbounded":
        raise NoLeast(list(end.row))
    here, cuts = model, []
    for name in names:
        cut = next_cut(here, end)
        if cut is None:
            return (end, here, cuts)
        here = with_cut(here, name, cut)
        end = from_below(here, end.stand)
        cuts.append(cut)
    return (end, here, cuts)


def next_cut(model, end):
    """Returns the cut for the least cell whose number is not whole, None if the run ends."""
    broken = [cell for cell, number in enumerate(end.table) if not is_whole(number)]
    if end.kind != "best" or not broken or model.book.size == MOST_CELLS:
        return None
    return cut_at(model, end.stand, broken[0])
