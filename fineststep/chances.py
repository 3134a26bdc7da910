"""The greatest chance of a rounding, and what is left of the table without it."""

from fineststep.checks import check_table
from fineststep.errors import BadChance, NotRounding
from fineststep.exact import ceiling_of, floor_of, is_whole, least_of, minus, over
from fineststep.rests import check_whole
from fineststep.roundings import is_rounding
from fineststep.rows import added, scaled


def paper_chance(book, table, whole):
    """Returns the greatest chance that a lot of the table gives to the rounding."""
    check_table(book, table)
    check_table(book, whole)
    check_whole(whole)
    if not is_rounding(book, whole, table):
        raise NotRounding("the whole table is not a rounding of the table")
    return least_of([1] + [chance_at(number, rounded) for number, rounded in zip(table, whole) if not is_whole(number)])


def chance_at(number, rounded):
    """Returns how near the number is to the whole number that it is rounded to, 1 where they are equal."""
    if rounded == ceiling_of(number):
        return minus(number, floor_of(number))
    return minus(ceiling_of(number), number)


def rest_after(book, table, whole):
    """Returns the table that is left if the rounding has its greatest chance."""
    chance = paper_chance(book, table, whole)
    if chance == 1:
        raise BadChance("nothing is left")
    rest = added(table, scaled(whole, minus(0, chance)))
    return scaled(rest, over(1, minus(1, chance)))
