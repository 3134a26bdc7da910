"""Whole rows are added up until they are 0 at given cells. All rows here are primitive, so their numbers stay small."""

from fineststep.rows import lowest


def cleared(rows, cells):
    """Returns lists (kept, leads, rest) whose leads and rest have the same sums of multiples as the rows.

    Each kept cell has a lead, in order, which is not 0 there and is 0 at the other kept cells. The rest is 0 at all
    the cells. A cell is kept if the cells kept before it leave a row that is not 0 there.
    """
    kept, leads, rest = [], [], list(rows)
    for cell in cells:
        at = lead_at(rest, cell)
        if at is not None:
            lead = rest[at]
            kept.append(cell)
            leads = without(leads, lead, cell) + [lead]
            rest = without(rest[:at] + rest[at + 1:], lead, cell)
    return kept, leads, rest


def narrowed(rows, first, many):
    """Returns, for rows none of which is a sum of multiples of others, each way to leave just `many` of them.

    A way is a tuple (cells, rest): an ascending list of cells from `first` on, each of which takes one row away, and
    the rows that are left, which are 0 at all these cells. The lists of cells are in order.
    """
    if len(rows) == many:
        return [([], rows)]
    ways = []
    for cell in range(first, len(rows[0]) if rows else first):
        at = lead_at(rows, cell)
        if at is not None:
            others = without(rows[:at] + rows[at + 1:], rows[at], cell)
            ways.extend([([cell] + cells, rest) for cells, rest in narrowed(others, cell + 1, many)])
    return ways


def lead_at(rows, cell):
    """Returns the index of the first row that is not 0 at the cell, or None."""
    for k, row in enumerate(rows):
        if row[cell] != 0:
            return k
    return None


def without(rows, lead, cell):
    """Returns the rows, made 0 at the cell by adding multiples of the lead."""
    return [row if row[cell] == 0 else lowered(row, lead, cell) for row in rows]


def lowered(row, lead, cell):
    """Returns the primitive row of the sum of multiples of row and lead that is 0 at the cell."""
    up, down = lead[cell], row[cell]
    return lowest([x * up - y * down for x, y in zip(row, lead)])
