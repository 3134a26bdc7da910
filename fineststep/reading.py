"""Model texts are read: one line for each cell."""

from fineststep.books import MOST_CELLS, Book, is_name, unit
from fineststep.ends import has_whole_ends, is_empty
from fineststep.exact import minus
from fineststep.models import Model
from fineststep.rows import added, scaled
from fineststep.words import Words

AFTER_SUM = ("from", "to", "at", "price", "whole")


def read_model(text):
    """Returns the model that the text describes."""
    names, forms, box, prices, marks = [], [], [], [], []
    for cell, line in enumerate(text.split("\n")):
        words = Words(cell + 1, line)
        if cell == MOST_CELLS:
            words.refuse()
        name, form = read_head(words, names, forms)
        low, high = read_range(words)
        price = read_price(words)
        if read_mark(words, low, high):
            marks.append(cell)
        words.finish()
        names.append(name)
        forms.append(form)
        box.append((low, high))
        prices.append(price)
    return Model(Book(names, entry_rows(forms)), box, prices=prices, marks=marks)


def entry_rows(forms):
    """Returns the tables in which one entry is 1 and the others are 0, and zeros for each sum.

    The form of a cell holds its factors at the entries, at the index of their cells.
    """
    return [[form[cell] for form in forms] for cell in range(len(forms))]


def read_head(words, names, forms):
    """Takes the head of a line and returns the name and the form of its cell."""
    if words.took("entry"):
        return read_name(words, names), unit(MOST_CELLS, len(names))
    words.expect("sum")
    name = read_name(words, names)
    words.expect("=")
    return name, read_terms(words, names, forms)


def read_name(words, names):
    """Takes the name of a new cell."""
    name = words.peek()
    if name is None or not is_name(name) or name in names:
        words.refuse()
    return words.take()


def read_terms(words, names, forms):
    """Takes what stands after `=` and returns the form of the sum."""
    if is_empty_sum(words, names):
        words.take()
        return [0] * MOST_CELLS
    if not names:
        words.refuse()
    negated = words.took("-")
    total = read_term(words, names, forms, negated)
    while words.peek() in ("+", "-"):
        negated = words.take() == "-"
        total = added(total, read_term(words, names, forms, negated))
    return total


def is_empty_sum(words, names):
    """Returns True if the next word, directly after `=`, is the 0 of the sum without terms, otherwise False."""
    if words.peek() != "0":
        return False
    return not names or words.peek(1) is None or words.peek(1) in AFTER_SUM


def read_term(words, names, forms, negated):
    """Takes a term and returns its form."""
    factor = words.number_ahead()
    if factor is None:
        factor = 1
    else:
        words.take()
    if words.peek() not in names:
        words.refuse()
    form = forms[names.index(words.take())]
    return scaled(form, minus(0, factor) if negated else factor)


def read_range(words):
    """Takes the range of a line, if it has one, and returns its ends."""
    if words.took("at"):
        number = words.take_number()
        return number, number
    low = words.take_number() if words.took("from") else None
    if not words.took("to"):
        return low, None
    high = words.number_ahead()
    if high is None or is_empty(low, high):
        words.refuse()
    words.take()
    return low, high


def read_price(words):
    """Takes the price of a line, if it has one, and returns it."""
    return words.take_number() if words.took("price") else 0


def read_mark(words, low, high):
    """Takes the mark of a line, if it has one; returns True if it has, otherwise False."""
    if words.peek() == "whole" and not has_whole_ends(low, high):
        words.refuse()
    return words.took("whole")
