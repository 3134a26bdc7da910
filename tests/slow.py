"""A slow second way to find out about answers: variables are eliminated from inequalities, in Fractions.

An inequality is a tuple (coefficients, bound): the sum of the coefficients times the variables is at most the bound.
"""

from fractions import Fraction

from helpers import fraction, fractions, number_of, reduced


def without_variable(rows, k, most):
    """Returns inequalities without variable k; each row is (coefficients, bound, rows that it was made from)."""
    ups = [row for row in rows if row[0][k] > 0]
    downs = [row for row in rows if row[0][k] < 0]
    found = [row for row in rows if row[0][k] == 0]
    for up in ups:
        for down in downs:
            made_from = up[2] | down[2]
            if len(made_from) <= most:
                a, b = up[0][k], -down[0][k]
                found.append(([x / a + y / b for x, y in zip(up[0], down[0])], up[1] / a + down[1] / b, made_from))
    return found


def slow_interval(inequalities, many):
    """Returns the range (low, high) of the last of many + 1 variables, as Fractions or None; None if there is none."""
    rows = [(fractions(row), fraction(bound), frozenset([k])) for k, (row, bound) in enumerate(inequalities)]
    for k in range(many):
        # After k + 1 variables an inequality that is made from more than k + 2 others follows from the rest. (This is
        # so only as long as no inequality is left out for another reason.)
        rows = without_variable(rows, k, k + 2)
    low, high = None, None
    for coefficients, bound, _ in rows:
        last = coefficients[many]
        if last == 0:
            if bound < 0:
                return None
        elif last > 0:
            high = bound / last if high is None else min(high, bound / last)
        else:
            low = bound / last if low is None else max(low, bound / last)
    if low is not None and high is not None and low > high:
        return None
    return (low, high)


def box_inequalities(book, box, weights=None):
    """Returns inequalities of the multiples of the frame rows, and of the width, for the tables in the widened box."""
    found = []
    for cell, (low, high) in enumerate(box):
        column = [Fraction(row[cell]) for row in book.frame]
        weight = Fraction(0) if weights is None else fraction(weights[cell])
        if high is not None:
            found.append((column + [-weight], fraction(high)))
        if low is not None:
            found.append(([-x for x in column] + [-weight], -fraction(low)))
    return found


def slow_span(book, box, prices, most=()):
    """Returns the range of the price over the tables in the box, as Fractions or None; None if there is no table.

    The tables are those for which each (other prices, bound) in `most` holds: this price is at most the bound.
    """
    many = len(book.frame)
    columns = frame_prices(book, prices)
    found = box_inequalities(book, box)
    found += [(columns + [Fraction(-1)], Fraction(0)), ([-x for x in columns] + [Fraction(1)], Fraction(0))]
    found += [(frame_prices(book, others) + [Fraction(0)], fraction(bound)) for others, bound in most]
    return slow_interval(found, many)


def frame_prices(book, prices):
    """Returns the prices of the frame rows."""
    return [sum((fraction(price) * row[k] for k, price in enumerate(prices)), Fraction(0)) for row in book.frame]


def slow_cell(book, box, cell, most=()):
    """Returns the range of the cell over these tables in the box."""
    return slow_span(book, box, [int(k == cell) for k in range(book.size)], most)


def slow_has(book, box):
    """Returns True if there is a table in the box."""
    return slow_span(book, box, [0] * book.size) is not None


def slow_width(book, box, weights):
    """Returns the least width as a Fraction, None if there is none."""
    many = len(book.frame)
    found = box_inequalities(book, box, weights) + [([Fraction(0)] * many + [Fraction(-1)], Fraction(0))]
    span = slow_interval(found, many)
    return None if span is None else span[0]


def shown_span(span):
    """Returns the range of Fractions as a range of the program."""
    return tuple(None if end is None else number_of(end) for end in span)


def slow_table(book, cells, values):
    """Returns the table with these values at the cells of a basis, as Fractions."""
    many = len(book.frame)
    rows = [[row[cell] for row in book.frame] + [value] for cell, value in zip(cells, values)]
    found, places = reduced(rows, many + 1)
    assert places == list(range(many))
    factors = [row[many] for row in found]
    return [sum((t * row[k] for t, row in zip(factors, book.frame)), Fraction(0)) for k in range(book.size)]


def slow_unit(book, basis, cell):
    """Returns the table with 1 at the cell and 0 at the other cells of the basis, as Fractions."""
    return slow_table(book, basis, [int(k == cell) for k in basis])


def slow_worth(row, box):
    """Returns the greatest worth as a Fraction, or None."""
    total = Fraction(0)
    for number, (low, high) in zip(fractions(row), box):
        if number > 0 and high is None or number < 0 and low is None:
            return None
        if number != 0:
            total += number * fraction(high if number > 0 else low)
    return total


def slow_within(numbers, box):
    """Returns True if each number lies in its range."""
    return all((low is None or fraction(low) <= x) and (high is None or x <= fraction(high))
               for x, (low, high) in zip(fractions(numbers), box))
