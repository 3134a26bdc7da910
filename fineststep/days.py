"""A whole table is parted into days that are roundings of an equal share."""

from fineststep.boxes import around
from fineststep.checks import check_narrow, check_table
from fineststep.errors import BadDays
from fineststep.exact import ratio
from fineststep.finest import check_fine
from fineststep.models import Model
from fineststep.picks import pick_answer
from fineststep.rests import check_whole
from fineststep.roundings import is_rounding
from fineststep.rows import added, negative

MOST_DAYS = 12


def parted(book, whole, days):
    """Returns the list of the whole tables of the days, whose sum is the whole table."""
    check_narrow(book)
    check_table(book, whole)
    check_whole(whole)
    check_days(days)
    check_fine(book)
    box = around([ratio(number, days) for number in whole])
    rest, found = list(whole), []
    for left in range(days, 0, -1):
        found.append(pick_answer(Model(book, box_of_day(rest, box, left - 1))))
        rest = added(rest, negative(found[-1]))
    return found


def check_days(days):
    """Raises BadDays if there are too few or too many days."""
    if not 1 <= days <= MOST_DAYS:
        raise BadDays("there are 1 to 12 days")


def box_of_day(rest, box, later):
    """Returns the ranges around the equal share that leave enough, and not too much, for the later days."""
    return [(max(low, number - later * high), min(high, number - later * low))
            for number, (low, high) in zip(rest, box)]


def is_parting(book, whole, parts):
    """Returns True if the parts are roundings of the equal share and their sum is the whole table, otherwise False."""
    check_table(book, whole)
    check_whole(whole)
    if not parts:
        raise BadDays("there is no part")
    share = [ratio(number, len(parts)) for number in whole]
    if not all([is_rounding(book, part, share) for part in parts]):
        return False
    total = [0] * book.size
    for part in parts:
        total = added(total, part)
    return total == list(whole)
