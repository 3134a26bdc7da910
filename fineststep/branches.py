"""Trees: a model is split at marked cells until each part has a leaf that shows its lowest whole answer, or none."""

from fineststep.below import from_below
from fineststep.books import pivots
from fineststep.certificates import shows_best, shows_none
from fineststep.errors import NoEnd, TooMany
from fineststep.exact import floor_of, is_whole, least_of, less, minus
from fineststep.models import is_whole_answer, with_box, with_item
from fineststep.rows import dot
from fineststep.running import solve
from fineststep.sheets import least_worth
from fineststep.sides import is_price

MOST_LISTS = 200
LEAVES = ("none", "dear", "whole")


def branch(model):
    """Returns a tree that holds for the model."""
    check_ends(model)
    check_lists(model)
    tree, lowest = [], None
    waiting = [(model, solve(model))]
    while waiting:
        here, end = waiting.pop()
        cell = cell_to_split(here, end.table)
        if end.kind == "none":
            tree.append(("none", list(end.row)))
        elif lowest is not None and not less(end.price, lowest):
            tree.append(("dear", list(end.row)))
        elif cell is None:
            tree.append(("whole", list(end.table), list(end.row)))
            lowest = end.price
        else:
            floor = floor_of(end.table[cell])
            tree.append(("split", cell, floor))
            waiting.extend([part_of(here, end.stand, box) for box in split_boxes(here.box, cell, floor)])
    return tree


def check_ends(model):
    """Raises NoEnd with the first cell that is an entry or marked and does not have both ends."""
    entries = pivots(model.book)
    for cell, ends in enumerate(model.box):
        if None in ends and (cell in entries or cell in model.marks):
            raise NoEnd(cell)


def check_lists(model):
    """Raises TooMany if there are too many lists of whole numbers in the ranges of the marked cells."""
    many = 1
    for cell in model.marks:
        low, high = model.box[cell]
        many *= high - low + 1
    if many > MOST_LISTS:
        raise TooMany(many)


def cell_to_split(model, table):
    """Returns the first marked cell at which the table is not whole, None if there is none."""
    for cell in model.marks:
        if not is_whole(table[cell]):
            return cell
    return None


def part_of(model, stand, box):
    """Returns the model with the box of one side of a split, and its outcome from a best stand of the model.

    The number of the split cell is not whole, so the cell is not in the basis: the stand is still priced.
    """
    part = with_box(model, box)
    return (part, from_below(part, stand))


def tree_holds(model, tree):
    """Returns True if the tree holds for the model, otherwise False."""
    lowest = least_of([dot(model.prices, table) for table in whole_tables_of(tree)])
    boxes = [model.box]
    for node in tree:
        if not boxes:
            return False
        box = boxes.pop()
        if is_split(model, box, node):
            boxes.extend(split_boxes(box, node[1], node[2]))
        elif not leaf_holds(with_box(model, box), node, lowest):
            return False
    return not boxes


def whole_tables_of(tree):
    """Returns the tables of the whole leaves."""
    return [node[1] for node in tree if len(node) == 3 and node[0] == "whole"]


def is_split(model, box, node):
    """Returns True if the node is a split that may stand at this box, otherwise False."""
    if len(node) != 3 or node[0] != "split" or node[1] not in model.marks or not is_whole(node[2]):
        return False
    low, high = box[node[1]]
    return (low is None or low <= node[2]) and (high is None or node[2] < high)


def split_boxes(box, cell, floor):
    """Returns the two boxes of a split, the one that begins at floor + 1 first."""
    low, high = box[cell]
    return [with_item(box, cell, (floor + 1, high)), with_item(box, cell, (low, floor))]


def leaf_holds(model, node, lowest):
    """Returns True if the node is a leaf of the model, with the least price of all whole leaves, otherwise False."""
    kind = node[0] if node else ""
    if kind not in LEAVES or len(node) != (3 if kind == "whole" else 2):
        return False
    if any([len(row) != model.book.size for row in node[1:]]):
        return False
    if kind == "none":
        return shows_none(model, node[1])
    if kind == "whole":
        return is_whole_answer(model, node[1]) and shows_best(model, node[1], node[2])
    return lowest is not None and is_dear(model, node[1], lowest)


def is_dear(model, reduced, lowest):
    """Returns True if the reduced prices show that no answer has a price below the lowest, otherwise False."""
    if not is_price(model.book, [minus(price, number) for price, number in zip(model.prices, reduced)]):
        return False
    worth = least_worth(reduced, model.box)
    return worth is not None and not less(worth, lowest)


def tree_best(tree, prices):
    """Returns a tuple (price, table) of the first whole leaf with the least price, None without a whole leaf."""
    best = None
    for table in whole_tables_of(tree):
        price = dot(prices, table)
        if best is None or less(price, best[0]):
            best = (price, list(table))
    return best
