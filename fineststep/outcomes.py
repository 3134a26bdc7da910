"""Outcomes of runs."""


class Outcome:
    """How a run ended: the kind, the last stand, its table, the row that shows the kind, the price and the steps."""

    def __init__(self, kind, stand, table, row, price, steps):
        self.kind = kind
        self.stand = stand
        self.table = tuple(table)
        self.row = tuple(row)
        self.price = price
        self.steps = steps
