"""Rules: which cell is let go in a step, and which one comes in."""

from fineststep.errors import BadRule

RULES = ("first", "last", "gain", "fall")


def check_rule(book, rule):
    """Raises BadRule if the rule is none of the four words and no order of the cells."""
    if isinstance(rule, str):
        if rule not in RULES:
            raise BadRule("the word is no rule")
    elif sorted(rule) != list(range(book.size)):
        raise BadRule("an order contains each cell exactly once")


def chosen_cell(cells, rule):
    """Returns the cell that the rule chooses from an ascending list of cells that are alike for it."""
    if rule == "last":
        return cells[-1]
    if isinstance(rule, str):
        return cells[0]
    return [cell for cell in rule if cell in cells][0]
