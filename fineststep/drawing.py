"""Lots are drawn up for a table, and a paper is drawn from a lot."""

from fineststep.boxes import around
from fineststep.checks import check_narrow, check_table
from fineststep.errors import BadChance
from fineststep.exact import least_of, less, minus, over, plus, times
from fineststep.lots import chances_of, check_lot
from fineststep.models import Model
from fineststep.picks import pick_answer
from fineststep.rows import added, scaled


def draw_up(book, table, *, toward=None):
    """Returns a lot of the table, whose papers are picks toward a list of whole numbers."""
    check_narrow(book)
    check_table(book, table)
    rest, left, lot = list(table), 1, []
    while True:
        paper = pick_answer(Model(book, box_of_round(rest, table)), toward=toward)
        share = share_of(paper, rest, table)
        lot.append((paper, times(left, share)))
        if share == 1:
            return lot
        other = minus(1, share)
        rest = scaled(added(rest, scaled(paper, minus(0, share))), over(1, other))
        left = times(left, other)


def box_of_round(rest, table):
    """Returns the box around the table, in which the ends that the rest has reached are kept."""
    return [(number, number) if number in ends else ends for number, ends in zip(rest, around(table))]


def share_of(paper, rest, table):
    """Returns the greatest share of the paper that leaves a rest around the table."""
    limits = [1]
    for drawn, number, (low, high) in zip(paper, rest, around(table)):
        if less(drawn, number):
            limits.append(over(minus(high, number), minus(high, drawn)))
        elif less(number, drawn):
            limits.append(over(minus(number, low), minus(drawn, low)))
    return least_of(limits)


def draw_paper(lot, number):
    """Returns the first paper with which the sum of the chances is above the number."""
    check_lot(lot)
    if less(number, 0) or not less(number, chances_of(lot)):
        raise BadChance("the number is out of its limits")
    at, total = 0, lot[0][1]
    while not less(number, total):
        at += 1
        total = plus(total, lot[at][1])
    return list(lot[at][0])
