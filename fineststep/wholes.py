"""Whole turnings: the smallest whole tables, and whole tables as sums of them."""

from fineststep.books import pivots
from fineststep.checks import check_narrow, check_size, check_table
from fineststep.errors import TooMany
from fineststep.lattice import combined
from fineststep.rests import check_whole, whole_frame
from fineststep.rows import negative, support, with_negatives
from fineststep.turnings import turning_rows

MOST_TABLES = 2500


def reaches(book):
    """Returns the list of the reaches of all cells."""
    check_narrow(book)
    many = len(book.frame)
    return [step if step == 0 or many == 1 else step * many - 1 for step in greatest_steps(book)]


def greatest_steps(book):
    """Returns for each cell the greatest absolute value that a turning has there, 0 if every turning is 0 there."""
    rows = turning_rows(book)
    return [max([abs(row[cell]) for row in rows], default=0) for cell in range(book.size)]


def whole_turnings(book):
    """Returns the list of the whole turnings in order."""
    check_narrow(book)
    check_few(book)
    return whole_rows(book)


def check_few(book):
    """Raises TooMany if there are too many lists of whole numbers within the reaches of the entries."""
    reach = reaches(book)
    many = 1
    for entry in pivots(book):
        many *= 2 * reach[entry] + 1
    if many > MOST_TABLES:
        raise TooMany(many)


def whole_rows(book):
    """Returns the list of the whole turnings in order, without asking how many tables are gone through."""
    reach = reaches(book)
    tables = whole_tables(book, [(-reach[entry], reach[entry]) for entry in pivots(book)])
    found, signed = [], []
    for _, table in sorted([(sum([abs(number) for number in table]), table) for table in tables]):
        # Whatever lies below a table has a lesser sum, so it has been gone through already.
        if is_upward(table) and not holds_one(table, signed):
            found.append(table)
            signed.extend([table, negative(table)])
    return found


def whole_tables(book, ends):
    """Returns the list of the whole tables whose numbers at the entries lie in these ranges of whole numbers."""
    found = [[0] * book.size]
    for row, entry, (low, high) in zip(whole_frame(book), pivots(book), ends):
        step = row[entry]
        found = [combined(table, 1, row, often) for table in found
                 for often in range(-((table[entry] - low) // step), (high - table[entry]) // step + 1)]
    return found


def is_upward(table):
    """Returns True if the first number that is not 0 is above 0, otherwise False."""
    cells = support(table)
    return bool(cells) and table[cells[0]] > 0


def holds_one(table, rows):
    """Returns True if one of the rows agrees with the whole table and is nowhere larger, otherwise False."""
    for row in rows:
        if fits_in(row, table):
            return True
    return False


def fits_in(row, table):
    """Returns True if the whole row agrees with the whole table and is nowhere larger, otherwise False."""
    for x, y in zip(row, table):
        if not (0 <= x <= y or y <= x <= 0):
            return False
    return True


def is_whole_turning(book, row):
    """Returns True if the row is a signed whole turning, otherwise False."""
    check_narrow(book)
    check_size(book, row)
    check_few(book)
    return list(row) in with_negatives(whole_rows(book))


def whole_parts(book, table):
    """Returns the whole parts of a whole table as a list of tuples (row, times)."""
    check_narrow(book)
    check_table(book, table)
    check_whole(table)
    check_few(book)
    parts, rest = [], list(table)
    # The rest only ever shrinks, so a row that is passed over, or used, never fits in it again.
    for row in with_negatives(whole_rows(book)):
        if fits_in(row, rest):
            often = min([rest[cell] // row[cell] for cell in support(row)])
            parts.append((row, often))
            rest = combined(rest, 1, row, -often)
    return parts
