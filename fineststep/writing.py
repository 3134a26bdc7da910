"""Models are written as model texts."""

from fineststep.books import pivots
from fineststep.exact import less, minus, number_text, ratio


def write_model(model):
    """Returns the written form of the model."""
    return "\n".join([line_of(model, cell) for cell in range(model.book.size)])


def line_of(model, cell):
    """Returns the line of the cell."""
    low, high = model.box[cell]
    line = head_of(model.book, cell) + range_text(low, high)
    if model.prices[cell] != 0:
        line += f" price {number_text(model.prices[cell])}"
    if cell in model.marks:
        line += " whole"
    return line


def head_of(book, cell):
    """Returns the head of the line of the cell."""
    name = book.names[cell]
    entries = pivots(book)
    if cell in entries:
        return f"entry {name}"
    terms = ""
    for row, entry in zip(book.frame, entries):
        factor = ratio(row[cell], row[entry])
        if factor != 0:
            terms += sign_of(factor, not terms) + term_text(factor, book.names[entry])
    return f"sum {name} ={terms}" if terms else f"sum {name} = 0"


def sign_of(factor, is_first):
    """Returns the sign before a term, with a space before it."""
    if less(factor, 0):
        return " -"
    return "" if is_first else " +"


def term_text(factor, name):
    """Returns a term without its sign, with a space before it."""
    size = minus(0, factor) if less(factor, 0) else factor
    return f" {name}" if size == 1 else f" {number_text(size)} {name}"


def range_text(low, high):
    """Returns the range of a line, with a space before each word."""
    if low is not None and low == high:
        return f" at {number_text(low)}"
    text = ""
    if low is not None:
        text += f" from {number_text(low)}"
    if high is not None:
        text += f" to {number_text(high)}"
    return text
