"""Point 120: the greatest chance of a rounding, and the table that is left."""

import random
import unittest
from fractions import Fraction

from fineststep.books import Book, is_table
from fineststep.chances import paper_chance, rest_after
from fineststep.drawing import draw_up
from fineststep.errors import BadChance, BadSize, NotRounding, NotTable, NotWhole
from fineststep.lots import is_lot, lot_mean
from fineststep.roundings import roundings
from helpers import Case, fraction, fractions, names, number_of, numbers_of, sample_books
from slow import slow_within
from test_roundings import box_around
from wholly import broken_table

BOOK = Book(["a", "b", "c"], [[1, 0, 1], [0, 1, 1]])
HALVES = Book(["a", "b", "c"], [[2, 0, 1], [0, 2, 1]])
TABLE = [(1, 3), (1, 2), (5, 6)]


def slow_chance(table, whole):
    """Returns the greatest t for which (table - t * whole) / (1 - t) lies around the table, 1 if they are equal."""
    limits = [Fraction(1)]
    for x, y, (low, high) in zip(fractions(table), whole, box_around(table)):
        if low != high:
            limits.append(x - low if y == high else high - x)
    return min(limits)


class PaperChance(Case):
    def test_whole_tables(self):
        self.assertEqual(paper_chance(BOOK, [1, 2, 3], [1, 2, 3]), 1)
        self.assertEqual(paper_chance(Book(names(2), []), (0, 0), (0, 0)), 1)

    def test_one_cell_and_several_cells_that_are_not_whole(self):
        self.assertEqual(paper_chance(Book.free(["a"]), [(1, 3)], [0]), (2, 3))
        self.assertEqual(paper_chance(Book.free(["a"]), [(1, 3)], [1]), (1, 3))
        self.assertEqual(paper_chance(Book.free(["a"]), [(-1, 3)], [0]), (2, 3))
        self.assertEqual(paper_chance(Book.free(["a", "b"]), [(1, 3), 7], [1, 7]), (1, 3))
        self.assertEqual(paper_chance(BOOK, TABLE, [0, 0, 0]), (1, 6))
        self.assertEqual(paper_chance(BOOK, TABLE, [1, 0, 1]), (1, 3))
        self.assertEqual(paper_chance(BOOK, TABLE, [0, 1, 1]), (1, 2))

    def test_tables_that_are_no_rounding(self):
        for whole in ([1, 1, 2], [0, -1, -1], [1, -1, 0], [2, 0, 2]):
            self.raises(NotRounding, paper_chance, BOOK, TABLE, whole)
            self.raises(NotRounding, rest_after, BOOK, TABLE, whole)
        self.raises(NotRounding, paper_chance, BOOK, [1, 2, 3], [1, 1, 2])

    def test_errors_in_their_order(self):
        for function in (paper_chance, rest_after):
            self.raises(BadSize, function, BOOK, [0, 0], [0])
            self.raises(NotTable, function, BOOK, [0, 0, 1], [0])
            self.raises(BadSize, function, BOOK, TABLE, [0, 0])
            self.raises(NotTable, function, BOOK, TABLE, [0, 0, (1, 2)])
            self.raises(NotWhole, function, BOOK, TABLE, [(7, 2), 0, (7, 2)])
            # A table around the other one that is not whole.
            self.raises(NotWhole, function, HALVES, [(1, 2), 0, (1, 4)], [1, 0, (1, 2)])

    def test_wide_books(self):
        book = Book(names(16), [[1] * 16])
        self.assertEqual(paper_chance(book, [(1, 4)] * 16, [1] * 16), (1, 4))
        self.assertEqual(rest_after(book, [(1, 4)] * 16, [1] * 16), [0] * 16)


class RestAfter(Case):
    def test_what_is_left(self):
        self.assertEqual(rest_after(Book.free(["a"]), [(1, 3)], [0]), [1])
        # (x - 1/2 [0, 1, 1]) * 2.
        self.assertEqual(rest_after(BOOK, TABLE, [0, 1, 1]), [(2, 3), 0, (2, 3)])

    def test_chances_of_1(self):
        self.raises(BadChance, rest_after, BOOK, [1, 2, 3], [1, 2, 3])
        self.raises(BadChance, rest_after, Book(names(2), []), [0, 0], [0, 0])

    def test_many_roundings(self):
        rng = random.Random(291)
        done = 0
        for book in sample_books(6, 60, seed=291):
            table = broken_table(rng, book)
            for whole in list(roundings(book, table))[:6]:
                chance = paper_chance(book, table, whole)
                self.assertEqual(chance, number_of(slow_chance(table, whole)))
                if chance == 1:
                    self.raises(BadChance, rest_after, book, table, whole)
                    continue
                rest = rest_after(book, table, whole)
                self.assertTrue(is_table(book, rest) and slow_within(rest, box_around(table)))
                self.assertEqual(lot_mean([(whole, chance), (rest, number_of(1 - fraction(chance)))]), table)
                # With a greater chance, what is left would not lie around the table.
                more = fraction(chance) + Fraction(1, 1000) * (1 - fraction(chance))
                beyond = [(x - more * y) / (1 - more) for x, y in zip(fractions(table), whole)]
                self.assertFalse(slow_within(numbers_of(beyond), box_around(table)))
                done += 1
        self.assertGreater(done, 40)

    def test_a_lot_gives_the_rounding_just_this_chance(self):
        chance = paper_chance(BOOK, TABLE, [0, 1, 1])
        rest = rest_after(BOOK, TABLE, [0, 1, 1])
        lot = [([0, 1, 1], chance)] + [(paper, number_of(fraction(other) * (1 - fraction(chance)))) for paper, other in draw_up(BOOK, rest)]
        self.assertIs(is_lot(BOOK, TABLE, lot), True)


if __name__ == "__main__":
    unittest.main()
