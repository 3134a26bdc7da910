"""Cards: whole tables whose mean is a table."""

from fineststep.checks import check_narrow, check_table
from fineststep.days import check_days, parted
from fineststep.errors import BadDays, NotEven
from fineststep.exact import common_bottom, is_whole, ratio
from fineststep.rows import scaled


def cards(book, table, many):
    """Returns as many whole tables as there are days, each of them a rounding of the table, which is their mean."""
    check_narrow(book)
    check_table(book, table)
    check_days(many)
    whole = scaled(table, many)
    if not all([is_whole(number) for number in whole]):
        raise NotEven("many times the table is not whole")
    return parted(book, whole, many)


def least_cards(table):
    """Returns the common bottom of the numbers."""
    return common_bottom(table)


def lot_of_cards(papers):
    """Returns the lot with each different card once; its chance says how often it stands among the cards."""
    if not papers:
        raise BadDays("there is no card")
    found = {}
    for paper in papers:
        key = tuple(paper)
        found[key] = found.get(key, 0) + 1
    return [(list(key), ratio(found[key], len(papers))) for key in found]
