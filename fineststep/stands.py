"""Stands: a basis of the book with an end of its range for each cell of the basis."""

from fineststep.bases import is_basis
from fineststep.books import pivots
from fineststep.clearing import cleared
from fineststep.ends import is_fixed
from fineststep.errors import BadSize, BadStand, NotBasis
from fineststep.exact import less, over
from fineststep.rows import added, dot, negative, scaled

WORDS = ("low", "high", "zero")


def first_stand(model):
    """Returns the stand of the entries, each with the first word that it has."""
    basis = tuple(pivots(model.book))
    return (basis, tuple([words_at(model, cell)[0] for cell in basis]))


def words_at(model, cell):
    """Returns the words that the cell has, in the order low, high, zero."""
    low, high = model.box[cell]
    if low is None and high is None:
        return ["zero"]
    return [word for word, end in (("low", low), ("high", high)) if end is not None]


def fitted_stand(model, basis, words):
    """Returns the stand of the basis in which each word that its cell has is kept."""
    if not is_ascending_basis(model.book, basis):
        raise NotBasis("the cells are not an ascending basis of the book")
    if len(words) != len(basis):
        raise BadSize("there is not one word for each cell")
    for word in words:
        if word not in WORDS:
            raise BadStand("a word is none of low, high and zero")
    return (tuple(basis), tuple([kept_word(model, cell, word) for cell, word in zip(basis, words)]))


def kept_word(model, cell, word):
    """Returns the word if the cell has it, otherwise the first word that the cell has."""
    known = words_at(model, cell)
    return word if word in known else known[0]


def is_ascending_basis(book, cells):
    """Returns True if the cells are in range, ascending and a basis, otherwise False."""
    if list(cells) != [cell for cell in range(book.size) if cell in cells]:
        return False
    return is_basis(book, cells)


def check_stand(model, stand):
    """Raises BadStand unless the stand is one of the model."""
    basis, ends = stand
    if not is_ascending_basis(model.book, basis) or len(ends) != len(basis):
        raise BadStand("the stand is not one of the model")
    for cell, word in zip(basis, ends):
        if word not in words_at(model, cell):
            raise BadStand("a cell does not have its word")


def stand_table(model, stand):
    """Returns the table of the stand."""
    check_stand(model, stand)
    return table_at(model, stand)


def table_at(model, stand):
    """Returns the table of a stand that is one of the model."""
    basis, ends = stand
    values = [end_named(model, cell, word) for cell, word in zip(basis, ends)]
    return table_with(basis, leads_at(model.book, basis), values, model.book.size)


def table_with(basis, leads, values, size):
    """Returns the table with these values at the cells of the basis."""
    table = [0] * size
    for cell, lead, value in zip(basis, leads, values):
        table = added(table, scaled(lead, over(value, lead[cell])))
    return table


def end_named(model, cell, word):
    """Returns the number that a word of the cell names."""
    low, high = model.box[cell]
    if word == "zero":
        return 0
    return low if word == "low" else high


def stand_turnings(model, stand):
    """Returns the list of the turnings of the stand at the cells of its basis, in order."""
    check_stand(model, stand)
    return leads_at(model.book, stand[0])


def leads_at(book, basis):
    """Returns, for each cell of an ascending basis, the signed turning that is above 0 there and 0 at the others."""
    leads = cleared(book.frame, basis)[1]
    return [list(lead) if lead[cell] > 0 else negative(lead) for cell, lead in zip(basis, leads)]


def reduced_prices(model, stand):
    """Returns the list of the reduced prices."""
    check_stand(model, stand)
    return reduced_at(model.book, stand[0], model.prices)


def reduced_at(book, basis, prices):
    """Returns the list of the reduced prices at a basis for these prices."""
    reduced = [0] * book.size
    for cell, row in zip(basis, leads_at(book, basis)):
        reduced[cell] = over(dot(prices, row), row[cell])
    return reduced


def is_priced(model, stand):
    """Returns True if no cell of the basis may be let go for the model's prices, otherwise False."""
    check_stand(model, stand)
    return not loose_cells(model, stand, reduced_at(model.book, stand[0], model.prices))


def loose_cells(model, stand, reduced):
    """Returns the ascending list of the cells of the basis that may be let go for these reduced prices."""
    basis, ends = stand
    return [cell for cell, word in zip(basis, ends) if is_loose(model.box[cell], word, reduced[cell])]


def is_loose(ends, word, reduced):
    """Returns True if a cell with this range, word and reduced price may be let go, otherwise False."""
    low, high = ends
    if is_fixed(low, high):
        return False
    return less(reduced, 0) and word != "high" or less(0, reduced) and word != "low"
