"""What a desk shows: its model and the table of its outcome in columns, and how the outcome is."""

from fineststep.exact import number_text
from fineststep.listing import columns


def report(desk):
    """Returns the strings that show the desk."""
    return columns(desk.model, desk.outcome.table) + [outcome_text(desk.outcome)]


def outcome_text(outcome):
    """Returns the kind and the price of the outcome."""
    price = "-" if outcome.price is None else number_text(outcome.price)
    return f"{outcome.kind} {price}"
