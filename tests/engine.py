"""A slow second engine: steps, steps from below and runs in Fractions, sentence by sentence as points 64 to 76 say."""

import itertools
from fractions import Fraction

from fineststep.bases import bases
from helpers import fraction, fractions, number_of, numbers_of, slow_primitive
from slow import slow_table, slow_unit


def has(ends):
    """Returns the words that a cell with this range has."""
    low, high = ends
    return ["zero"] * (low is None and high is None) + ["low"] * (low is not None) + ["high"] * (high is not None)


def stands_of(model):
    """Returns all stands of the model."""
    return [(tuple(basis), words) for basis in bases(model.book)
            for words in itertools.product(*[has(model.box[cell]) for cell in basis])]


def box_of(model):
    """Returns the box with Fractions and None."""
    return [tuple(None if end is None else fraction(end) for end in ends) for ends in model.box]


def table_of_stand(model, stand):
    """Returns the table of the stand as Fractions."""
    basis, words = stand
    box = box_of(model)
    values = [0 if word == "zero" else box[cell][word == "high"] for cell, word in zip(basis, words)]
    return slow_table(model.book, basis, values)


def turning_at(model, basis, cell):
    """Returns the turning of the basis at the cell, as ints."""
    row = slow_primitive(slow_unit(model.book, basis, cell))
    return row if row[cell] > 0 else [-x for x in row]


def reduced_for(model, basis, prices):
    """Returns the reduced prices for these prices, as Fractions."""
    found = [Fraction(0)] * model.book.size
    for cell in basis:
        found[cell] = sum((x * y for x, y in zip(slow_unit(model.book, basis, cell), prices)), Fraction(0))
    return found


def loose(model, stand, reduced):
    """Returns the cells that may be let go, each with its sign: 1 for upwards, -1 for downwards."""
    found = {}
    for cell, word in zip(*stand):
        low, high = model.box[cell]
        fixed = low is not None and low == high
        if not fixed and reduced[cell] < 0 and word in ("low", "zero"):
            found[cell] = 1
        if not fixed and reduced[cell] > 0 and word in ("high", "zero"):
            found[cell] = -1
    return found


def out_of_range(x, box):
    """Returns a dict of the cells whose numbers are out of their ranges: -1 below, 1 above."""
    found = {}
    for cell, (low, high) in enumerate(box):
        if low is not None and x[cell] < low:
            found[cell] = -1
        if high is not None and x[cell] > high:
            found[cell] = 1
    return found


def mending(box, out):
    """Returns the prices and the ranges of point 68."""
    goal = min(out)
    prices = [Fraction(out[goal]) if cell == goal else Fraction(0) for cell in range(len(box))]
    ranges = []
    for cell, (low, high) in enumerate(box):
        if cell not in out:
            ranges.append((low, high))
        elif cell == goal:
            ranges.append((None, low) if out[cell] < 0 else (high, None))
        else:
            ranges.append((None, high) if out[cell] < 0 else (low, None))
    return prices, ranges


def limits(x, e, ranges):
    """Returns a dict of the limits of point 67."""
    found = {}
    for cell, (low, high) in enumerate(ranges):
        if e[cell] > 0 and high is not None:
            found[cell] = (high - x[cell]) / e[cell]
        if e[cell] < 0 and low is not None:
            found[cell] = (low - x[cell]) / e[cell]
    return found


def sorted_stand(pairs):
    """Returns the stand with these cells and words."""
    pairs = sorted(pairs.items())
    return (tuple(cell for cell, _ in pairs), tuple(word for _, word in pairs))


def price_turning(model, basis, goal):
    """Returns the price turning that is 0 outside the basis but at the goal, with a number above 0 at the goal."""
    row = [Fraction(0)] * model.book.size
    row[goal] = Fraction(1)
    for cell in basis:
        row[cell] = -slow_unit(model.book, basis, cell)[goal]
    row = slow_primitive(row)
    return row if row[goal] > 0 else [-x for x in row]


def slow_end(model, stand, out):
    """Returns the kind and the row where no cell may be let go."""
    if not out:
        return ("best", stand, numbers_of(reduced_for(model, stand[0], fractions(model.prices))))
    goal = min(out)
    row = price_turning(model, stand[0], goal)
    return ("none", stand, [-x for x in row] if out[goal] < 0 else row)


def slow_step(model, stand, rule):
    """Returns what step_from returns."""
    basis, words = stand
    box = box_of(model)
    x = table_of_stand(model, stand)
    out = out_of_range(x, box)
    prices, ranges = mending(box, out) if out else (fractions(model.prices), box)
    reduced = reduced_for(model, basis, prices)
    signs = loose(model, stand, reduced)
    if not signs:
        return slow_end(model, stand, out)
    ways = {cell: [signs[cell] * y for y in turning_at(model, basis, cell)] for cell in signs}
    far = {cell: min(limits(x, e, ranges).values(), default=None) for cell, e in ways.items()}
    falls = {cell: None if far[cell] is None else far[cell] * abs(sum(p * y for p, y in zip(prices, e)))
             for cell, e in ways.items()}
    if rule == "gain":
        leaving = max(ways, key=lambda cell: (abs(reduced[cell]), -cell))
    elif rule == "fall":
        leaving = max(ways, key=lambda cell: (falls[cell] is None, falls[cell] or 0, -cell))
    else:
        leaving = first_by(ways, rule)
    e = ways[leaving]
    if far[leaving] is None:
        return ("unbounded", stand, e)
    stopping = [cell for cell, limit in limits(x, e, ranges).items() if limit == far[leaving]]
    pairs = dict(zip(basis, words))
    if leaving in stopping:
        pairs[leaving] = "high" if pairs[leaving] == "low" else "low"
        return ("flip", sorted_stand(pairs), e)
    coming = first_by(stopping, "first" if rule in ("gain", "fall") else rule)
    word = "high" if e[coming] > 0 else "low"
    if out and coming == min(out):
        word = "low" if out[coming] < 0 else "high"
    del pairs[leaving]
    pairs[coming] = word
    return ("swap", sorted_stand(pairs), e)


def first_by(cells, rule):
    """Returns the cell that comes first by the rule first, last or an order."""
    order = {"first": lambda cell: cell, "last": lambda cell: -cell}.get(rule) or rule.index
    return min(cells, key=order)


def slow_below_step(model, stand):
    """Returns what below_step returns."""
    basis, words = stand
    box = box_of(model)
    out = out_of_range(table_of_stand(model, stand), box)
    if not out:
        return slow_end(model, stand, out)
    goal = min(out)
    pulls = reduced_for(model, basis, mending(box, out)[0])
    candidates = loose(model, stand, pulls)
    if not candidates:
        return slow_end(model, stand, out)
    reduced = reduced_for(model, basis, fractions(model.prices))
    leaving = min(candidates, key=lambda cell: (abs(reduced[cell] / pulls[cell]), cell))
    pairs = dict(zip(basis, words))
    del pairs[leaving]
    pairs[goal] = "low" if out[goal] < 0 else "high"
    return ("swap", sorted_stand(pairs), price_turning(model, basis, goal))


def slow_run(model, stand, step):
    """Returns (stands, kind, row) of the run that makes these steps."""
    stands = [stand]
    while True:
        kind, following, row = step(model, stands[-1])
        if kind not in ("swap", "flip"):
            return (stands, kind, row)
        again = following in stands
        stands.append(following)
        if again:
            return (stands, "ring", [])


def slow_outcome(model, stand, step):
    """Returns the fields of the outcome of this run."""
    stands, kind, row = slow_run(model, stand, step)
    x = table_of_stand(model, stands[-1])
    price = number_of(sum((p * y for p, y in zip(fractions(model.prices), x)), Fraction(0)))
    return [kind, stands[-1], tuple(numbers_of(x)), tuple(row), price if kind == "best" else None, len(stands) - 1]
