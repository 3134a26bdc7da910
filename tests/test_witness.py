"""Points 40 and 41: witnesses."""

import itertools
import unittest

from fineststep.books import Book, is_table
from fineststep.errors import BadSize, BadStep, NoCell, TooWide
from fineststep.finest import finest_step
from fineststep.witness import step_witness, witness_box, witness_holds, witness_table
from helpers import Case, fractions, names, numbers_of, sample_books, slow_turnings, wide_books

BOOK = Book(["a", "b", "c"], [[2, 1, 0], [0, 3, 3]])


def slow_witness(book, k):
    """Returns the first turning and its least cell, or None."""
    for row in slow_turnings(book):
        for cell, number in enumerate(row):
            if number != 0 and k % abs(number) != 0:
                return (row, cell)
    return None


class Witnesses(Case):
    def test_the_example(self):
        self.assertEqual(step_witness(BOOK, 3), ([2, 1, 0], 0))

    def test_there_is_one_exactly_if_the_finest_step_does_not_divide_k(self):
        for book in sample_books(6, 40):
            finest = finest_step(book)
            for k in list(range(1, 14)) + [finest, 2 * finest, 3 * finest, finest + 1, max(finest - 1, 1)]:
                witness = step_witness(book, k)
                self.assertEqual(witness, slow_witness(book, k))
                self.assertEqual(witness is None, k % finest == 0)
                if witness is not None:
                    self.assertIs(type(witness), tuple)
                    self.assertIs(type(witness[0]), list)
                    self.assertIs(witness_holds(book, witness, k), True)

    def test_step_witness_errors(self):
        for k in (0, -1, -5):
            self.raises(BadStep, step_witness, BOOK, k)
        for book in wide_books():
            self.raises_wide(book.size, TooWide, step_witness, book, 0)

    def test_table_and_box(self):
        witness = ([2, 0, -1], 0)
        self.assertEqual([witness_table(witness), witness_box(witness)], [[1, 0, (-1, 2)], [(1, 1), (0, 0), (-1, 0)]])
        witness = ([2, 0, -3], 2)
        self.assertEqual([witness_table(witness), witness_box(witness)], [[(2, 3), 0, -1], [(0, 1), (0, 0), (-1, -1)]])
        self.assertEqual([witness_table(([2, 1, 0], 1)), witness_box(([2, 1, 0], 1))], [[2, 1, 0], [(2, 2), (1, 1), (0, 0)]])

    def test_the_table_is_the_only_one_in_its_box(self):
        for book in sample_books(4, 20, seed=27):
            for k in (1, 2, 3):
                witness = step_witness(book, k)
                if witness is None:
                    continue
                table, box = witness_table(witness), witness_box(witness)
                self.assertIs(is_table(book, table), True)
                self.assertTrue(all(low <= x <= high for (low, high), x in zip(box, fractions(table))))
                self.assertTrue(any((k * x).denominator > 1 for x in fractions(table)))
                # Tables in steps of 1/6 within the box: only this one, as each cell of its turning goes with the others.
                sixths = [range(6 * low, 6 * high + 1) for low, high in box]
                if len(book.frame) < 3:
                    for tops in itertools.product(*sixths):
                        other = numbers_of(x / 6 for x in fractions(tops))
                        if is_table(book, other):
                            self.assertEqual(other, table)


class Holding(Case):
    def test_each_turning_cell_and_k(self):
        for book in sample_books(5, 25):
            for row in slow_turnings(book):
                for cell in range(book.size):
                    for k in range(1, 8):
                        expected = row[cell] != 0 and k % abs(row[cell]) != 0
                        self.assertIs(witness_holds(book, (row, cell), k), expected)
                        self.assertIs(witness_holds(book, ([-x for x in row], cell), k), False)

    def test_rows_that_are_no_turnings(self):
        for row in ([0, 0, 0], [4, 2, 0], [2, 2, 1], [3, 0, 0], [1, (1, 2), 0], [-2, -1, 0], [(5, 2), 0, 0]):
            self.assertIs(witness_holds(BOOK, (row, 0), 3), False)
        self.assertIs(witness_holds(BOOK, ([2, 1, 0], 0), 3), True)
        self.assertIs(witness_holds(BOOK, ([2, 1, 0], 0), 4), False)
        self.assertIs(witness_holds(BOOK, ([2, 1, 0], 1), 3), False)
        self.assertIs(witness_holds(BOOK, ([2, 1, 0], 2), 3), False)

    def test_books_of_any_size(self):
        book = Book(names(16), [[2] + [1] * 15])
        self.assertIs(witness_holds(book, ([2] + [1] * 15, 0), 3), True)
        self.assertIs(witness_holds(book, ([2] + [1] * 15, 0), 2), False)
        self.assertIs(witness_holds(book, ([2] + [1] * 15, 5), 3), False)
        self.assertIs(witness_holds(Book.free(names(16)), ([3] + [0] * 15, 0), 2), False)

    def test_the_order_of_the_errors(self):
        for k in (0, -3):
            self.raises(BadStep, witness_holds, BOOK, ([1], 9), k)
        for row in ([], [2, 1], [2, 1, 0, 0]):
            self.raises(BadSize, witness_holds, BOOK, (row, 9), 1)
        for cell in (-1, 3):
            self.raises_cell(NoCell, cell, witness_holds, BOOK, ([0, 0, 0], cell), 1)


if __name__ == "__main__":
    unittest.main()
