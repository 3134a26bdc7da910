"""Whole tables: the whole frame, and whether there is a whole table with given numbers."""

from fineststep.books import pivots, table_of, unit
from fineststep.checks import check_cells, check_table
from fineststep.errors import BadOrder, BadSize, NotWhole
from fineststep.exact import is_whole, minus, over, ratio
from fineststep.lattice import combined, made_whole
from fineststep.reshaped import reordered
from fineststep.rows import dot
from fineststep.settled import settling_rule


def whole_frame(book):
    """Returns the whole frame, a list of lists."""
    entries = pivots(book)
    found = [unit(len(entries), k) for k in range(len(entries))]
    for cell in range(book.size):
        found = made_whole(found, [ratio(row[cell], row[entry]) for row, entry in zip(book.frame, entries)])
    return [table_of(book, values) for values in found]


def whole_times(book, table):
    """Returns the list of the whole times of a whole table."""
    check_table(book, table)
    check_whole(table)
    found, rest = [], list(table)
    for row, entry in zip(whole_frame(book), pivots(book)):
        found.append(rest[entry] // row[entry])
        rest = combined(rest, 1, row, -found[-1])
    return found


def check_whole(numbers):
    """Raises NotWhole if a number is not whole."""
    if not all([is_whole(number) for number in numbers]):
        raise NotWhole("a number is not whole")


def whole_at(book, cells, numbers):
    """Returns ("table", whole table that shows the numbers), or if there is none ("row", list) or ("rest", list)."""
    check_cells(book, cells)
    if len(set(cells)) < len(cells):
        raise BadOrder("a cell stands twice")
    if len(numbers) != len(cells):
        raise BadSize("there are not as many numbers as cells")
    check_whole(numbers)
    row = row_against(book, cells, numbers)
    if row is not None:
        return ("row", row)
    order = list(cells) + [cell for cell in range(book.size) if cell not in cells]
    kind, found = whole_at_first(reordered(book, order), numbers)
    return (kind, [found[order.index(cell)] for cell in range(book.size)])


def row_against(book, cells, numbers):
    """Returns a price row, 0 at all other cells, whose sum is not 0, None if a table shows the numbers."""
    for cell in cells:
        row = unit(book.size, cell)
        # For a first free cell the rule is the cell itself, and the row is 0.
        for free, factor in settling_rule(book, cells, cell):
            row[free] = minus(row[free], factor)
        if dot([row[given] for given in cells], numbers) != 0:
            return row
    return None


def whole_at_first(book, numbers):
    """Returns ("table", whole table) or ("rest", list) for numbers at the first cells, which some table has."""
    frame, entries = whole_frame(book), pivots(book)
    table = [0] * book.size
    for k, (row, entry) in enumerate(zip(frame, entries)):
        # Beyond the given cells any number will do: it is kept small.
        wanted = numbers[entry] if entry < len(numbers) else table[entry] % row[entry]
        factor = ratio(wanted - table[entry], row[entry])
        if not is_whole(factor):
            return ("rest", rest_at(frame, entries, k))
        table = combined(table, 1, row, factor)
    return ("table", table)


def rest_at(frame, entries, k):
    """Returns the list whose dot with each whole table is its whole times for row k; it is 0 beyond the row's entry."""
    found = [0] * len(frame[k])
    for at in range(k, -1, -1):
        missing = minus(int(at == k), dot(frame[at], found))
        found[entries[at]] = over(missing, frame[at][entries[at]])
    return found
