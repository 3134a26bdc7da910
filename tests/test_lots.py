"""Point 117: lots and their means."""

import unittest

from fineststep.books import Book
from fineststep.errors import BadLot, BadSize, NotTable
from fineststep.lots import is_lot, lot_mean
from helpers import Case, names

BOOK = Book(["a", "b", "c"], [[1, 0, 1], [0, 1, 1]])
HALF = (1, 2)
TABLE = [HALF, HALF, 1]
LOT = [([0, 1, 1], HALF), ([1, 0, 1], HALF)]


class Means(Case):
    def test_means(self):
        self.assertEqual(lot_mean(LOT), TABLE)
        self.assertEqual(lot_mean([([1, (1, 3)], (3, 4))]), [(3, 4), (1, 4)])
        self.assertEqual(lot_mean([([1, 2], -1), ([3, 4], 2), ([1, 2], 0)]), [5, 6])
        self.assertEqual(lot_mean([([], 1)]), [])

    def test_an_empty_lot(self):
        self.raises(BadLot, lot_mean, [])


class IsLot(Case):
    def test_lots_of_a_table(self):
        self.assertIs(is_lot(BOOK, TABLE, LOT), True)
        self.assertIs(is_lot(BOOK, tuple(TABLE), LOT[::-1]), True)
        self.assertIs(is_lot(BOOK, TABLE, [(TABLE, 1)]), True)
        self.assertIs(is_lot(BOOK, [2, 3, 5], [([2, 3, 5], 1)]), True)
        # Papers need not be whole.
        self.assertIs(is_lot(BOOK, TABLE, [([(1, 4), (3, 4), 1], HALF), ([(3, 4), (1, 4), 1], HALF)]), True)
        self.assertIs(is_lot(Book(names(2), []), [0, 0], [([0, 0], 1)]), True)

    def test_an_empty_lot(self):
        self.assertIs(is_lot(BOOK, TABLE, []), False)
        self.assertIs(is_lot(Book(names(2), []), [0, 0], []), False)

    def test_papers_of_another_length(self):
        for paper in ([0, 1], [0, 1, 1, 0], []):
            self.assertIs(is_lot(BOOK, TABLE, [(paper, HALF), LOT[1]]), False)

    def test_papers_that_are_no_tables(self):
        free = [([0, 1, HALF], HALF), ([1, 0, (3, 2)], HALF)]
        self.assertEqual(lot_mean(free), TABLE)
        self.assertIs(is_lot(BOOK, TABLE, free), False)
        third = [([0, 1, 1], (1, 3)), ([1, 0, 1], (1, 3)), ([HALF, HALF, HALF], (1, 6)), ([HALF, HALF, (3, 2)], (1, 6))]
        self.assertEqual(lot_mean(third), TABLE)
        self.assertIs(is_lot(BOOK, TABLE, third), False)

    def test_papers_that_do_not_lie_around_the_table(self):
        lot = [([-1, 2, 1], HALF), ([2, -1, 1], HALF)]
        self.assertEqual(lot_mean(lot), TABLE)
        self.assertIs(is_lot(BOOK, TABLE, lot), False)
        lot = [([HALF, 0, HALF], HALF), ([HALF, 1, (3, 2)], HALF)]
        self.assertEqual(lot_mean(lot), TABLE)
        self.assertIs(is_lot(BOOK, TABLE, lot), False)
        self.assertIs(is_lot(BOOK, [2, 3, 5], [([2, 4, 6], HALF), ([2, 2, 4], HALF)]), False)

    def test_the_same_paper_twice(self):
        self.assertIs(is_lot(BOOK, TABLE, [LOT[0], ([1, 0, 1], (1, 4)), ([1, 0, 1], (1, 4))]), False)
        self.assertIs(is_lot(BOOK, TABLE, [(TABLE, HALF), (list(TABLE), HALF)]), False)

    def test_chances_of_0_and_below(self):
        self.assertIs(is_lot(BOOK, TABLE, LOT + [(TABLE, 0)]), False)
        lot = [([0, 1, 1], (3, 4)), ([1, 0, 1], (3, 4)), (TABLE, (-1, 2))]
        self.assertEqual(lot_mean(lot), TABLE)
        self.assertIs(is_lot(BOOK, TABLE, lot), False)

    def test_sums_other_than_1(self):
        zeros = Book(names(2), [[1, 1]])
        self.assertIs(is_lot(zeros, [0, 0], [([0, 0], 1)]), True)
        for chance in (HALF, 2, (3, 2)):
            self.assertIs(is_lot(zeros, [0, 0], [([0, 0], chance)]), False)

    def test_another_mean(self):
        self.assertIs(is_lot(BOOK, TABLE, [([0, 1, 1], (1, 3)), ([1, 0, 1], (2, 3))]), False)
        self.assertIs(is_lot(BOOK, TABLE, [([0, 1, 1], 1)]), False)

    def test_errors_of_the_table_whatever_the_lot_is(self):
        for lot in (LOT, [], [([0], 0)]):
            self.raises(BadSize, is_lot, BOOK, [HALF, HALF], lot)
            self.raises(NotTable, is_lot, BOOK, [HALF, HALF, 0], lot)

    def test_wide_books(self):
        book = Book(names(16), [[1] * 16])
        self.assertIs(is_lot(book, [HALF] * 16, [([0] * 16, HALF), ([1] * 16, HALF)]), True)


if __name__ == "__main__":
    unittest.main()
