"""The least price as the number of one cell moves."""

from fineststep.barring import check_bars, signed_prices
from fineststep.certificates import runs_free
from fineststep.checks import check_cell, check_narrow
from fineststep.ends import lies_within
from fineststep.errors import NoLeast
from fineststep.exact import greatest_of, least_of, less, minus, over, plus, times
from fineststep.models import with_item
from fineststep.ranges import span
from fineststep.rows import dot
from fineststep.sheets import least_worth, sheets
from fineststep.turnings import signed_turnings


def price_pieces(model, cell):
    """Returns the list of the pieces (low, high, base, slope) of the model and the cell."""
    check_narrow(model.book)
    check_cell(model.book, cell)
    rows = signed_prices(model.book)
    check_bars(rows, model.box)
    check_bounded(model, cell)
    low, high = span(rows, model.box, cell)
    lines = lines_at(model, cell)
    if low is not None and low == high:
        return [(low, low, greatest_of([value_on(line, low) for line in lines]), 0)]
    return pieces_between(lines, low, high)


def check_bounded(model, cell):
    """Raises NoLeast with the first signed turning along which the price falls forever, the cell keeping its number."""
    for row in signed_turnings(model.book):
        if row[cell] == 0 and less(dot(model.prices, row), 0) and runs_free(row, model.box):
            raise NoLeast(row)


def lines_at(model, cell):
    """Returns tuples (base, slope): if the cell has the number t, the least price is the greatest base + slope t.

    Each sheet that has a worth gives one: if both ends of the cell are t, this is the worth of the sheet.
    """
    lines = []
    for sheet in sheets(model.book, model.prices):
        base = least_worth(with_item(sheet, cell, 0), model.box)
        if base is not None:
            lines.append((base, sheet[cell]))
    return lines


def value_on(line, number):
    """Returns base + slope times the number."""
    base, slope = line
    return plus(base, times(slope, number))


def pieces_between(lines, low, high):
    """Returns the pieces of the greatest of the lines from low to high."""
    base, slope = first_line(lines, low)
    start, pieces = low, []
    while True:
        steeper = [line for line in lines if less(slope, line[1])]
        meets = [over(minus(base, other), minus(steep, slope)) for other, steep in steeper]
        end = least_of(meets)
        if end is None or high is not None and not less(end, high):
            pieces.append((start, high, base, slope))
            return pieces
        pieces.append((start, end, base, slope))
        start = end
        base, slope = steepest([line for line, meeting in zip(steeper, meets) if meeting == end])


def first_line(lines, low):
    """Returns the line that is the greatest one just above low, which may be None."""
    if low is None:
        least = least_of([slope for _, slope in lines])
        top = greatest_of([base for base, slope in lines if slope == least])
        return (top, least)
    top = greatest_of([value_on(line, low) for line in lines])
    return steepest([line for line in lines if value_on(line, low) == top])


def steepest(lines):
    """Returns the line with the greatest slope; lines with the same slope are the same here."""
    most = greatest_of([slope for _, slope in lines])
    return [line for line in lines if line[1] == most][0]


def piece_price(pieces, number):
    """Returns the least price for the number, by a piece in which it lies, None if there is none."""
    for low, high, base, slope in pieces:
        if lies_within(number, low, high):
            return value_on((base, slope), number)
    return None
