"""Outcomes of runs."""

from fineststep.rows import dot
from fineststep.stands import table_at


class Outcome:
    """How a run ended: the kind, the last stand, its table, the row that shows the kind, the price and the steps."""

    def __init__(self, kind, stand, table, row, price, steps):
        self.kind = kind
        self.stand = stand
        self.table = tuple(table)
        self.row = tuple(row)
        self.price = price
        self.steps = steps


def outcome_at(model, kind, stand, row, steps):
    """Returns the outcome of a run that ended at the stand."""
    table = table_at(model, stand)
    price = dot(model.prices, table) if kind == "best" else None
    return Outcome(kind, stand, table, row, price, steps)
