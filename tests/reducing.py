"""A slow second way to find reduction steps: all steps are tried, condition by condition as points 104 to 107 say."""

import random
from fractions import Fraction

from fineststep.books import Book
from fineststep.models import Model
from helpers import fraction, fractions, names, random_rows, random_table, signed, slow_signed_prices, slow_turnings


def quotient_range(model, cell, row):
    """Returns the least and the greatest value of the quotient of point 104, each None if there is none."""
    least, greatest = Fraction(0), Fraction(0)
    for j, number in enumerate(row):
        factor = -Fraction(number, row[cell])
        if j == cell or factor == 0:
            continue
        low, high = model.box[j] if factor > 0 else model.box[j][::-1]
        least = None if least is None or low is None else least + factor * fraction(low)
        greatest = None if greatest is None or high is None else greatest + factor * fraction(high)
    return least, greatest


def is_fixed_at(model, cell):
    """Returns True if both ends are numbers and equal."""
    low, high = model.box[cell]
    return low is not None and low == high


def end_of(model, cell, side):
    """Returns the end of the cell on the side."""
    return model.box[cell][side == "high"]


def slow_drop_holds(model, cell, side, row):
    """Returns True if the drop may be done; the row is a signed price turning."""
    if row[cell] == 0 or cell in model.marks or is_fixed_at(model, cell) or end_of(model, cell, side) is None:
        return False
    least, greatest = quotient_range(model, cell, row)
    if side == "low":
        return least is not None and least >= fraction(end_of(model, cell, side))
    return greatest is not None and greatest <= fraction(end_of(model, cell, side))


def slow_push_holds(model, cell, side, row):
    """Returns True if the push may be done; the row is a signed turning."""
    if row[cell] == 0 or is_fixed_at(model, cell) or end_of(model, cell, side) is None:
        return False
    e = row if row[cell] > 0 else [-x for x in row]
    price = sum(x * y for x, y in zip(fractions(model.prices), e))
    others = [j for j in range(len(e)) if j != cell]
    if side == "low":
        if price < 0 or any(e[j] > 0 and model.box[j][0] is not None or e[j] < 0 and model.box[j][1] is not None for j in others):
            return False
    elif price > 0 or any(e[j] > 0 and model.box[j][1] is not None or e[j] < 0 and model.box[j][0] is not None for j in others):
        return False
    if any(e[j] != 0 and j in model.marks for j in range(len(e))):
        return cell in model.marks and e[cell] == 1
    return True


def slow_steps(model, word):
    """Returns all steps of the word that may be done, in the order of point 109."""
    if word == "blank":
        return [("blank", cell) for cell in range(model.book.size) if model.book.size > 1 and model.box[cell] == (None, None)
                and model.prices[cell] == 0 and cell not in model.marks]
    if word == "shut":
        return [("shut", cell) for cell in range(model.book.size) if model.book.size > 1 and model.box[cell] == (0, 0)]
    rows = slow_signed_prices(model.book)[::2] if word == "drop" else slow_turnings(model.book)
    holds = slow_drop_holds if word == "drop" else slow_push_holds
    found = [(word, cell, side, row) for cell in range(model.book.size) for side in ("low", "high") for row in rows
             if holds(model, cell, side, row)]
    if word == "push":
        found = [(word, cell, side, row if row[cell] > 0 else [-x for x in row]) for _, cell, side, row in found]
    return found


def all_steps(model):
    """Returns all tuples that have the form of a step with a signed turning, or a signed price turning."""
    cells = range(model.book.size)
    found = [(word, cell) for word in ("blank", "shut") for cell in cells]
    for word, rows in (("drop", slow_signed_prices(model.book)), ("push", signed(slow_turnings(model.book)))):
        found += [(word, cell, side, row) for cell in cells for side in ("low", "high") for row in rows]
    return found


def slow_holds(model, step):
    """Returns True if a tuple of all_steps may be done."""
    if step[0] in ("blank", "shut"):
        return step in slow_steps(model, step[0])
    return (slow_drop_holds if step[0] == "drop" else slow_push_holds)(model, *step[1:])


def loose_models(seed, many, most=6):
    """Returns models with few ends, so that many steps may be done, with and without answers."""
    rng = random.Random(seed)
    models = []
    for k in range(many):
        size = rng.randint(1, most)
        book = Book(names(size), random_rows(rng, rng.randint(0, min(3, size)), size, most=rng.choice([1, 1, 2]), bottoms=(1,)))
        centre = [round(x) for x in fractions(random_table(rng, book, most=2))] if k % 2 else [0] * size
        box, marks = [], []
        for cell in range(size):
            low, high = centre[cell] - rng.randint(0, 2), centre[cell] + rng.randint(0, 2)
            box.append(rng.choice([(low, high), (low, None), (None, high), (None, None), (None, None), (0, 0), (low, low)]))
            if rng.random() < 0.2:
                marks.append(cell)
        prices = [rng.choice([0, 0, 0, 1, -1, 2]) for _ in range(size)]
        models.append(Model(book, box, prices=prices, marks=marks))
    return models
