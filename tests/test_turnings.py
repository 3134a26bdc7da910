"""Points 30 and 31: turnings."""

import inspect
import itertools
import random
import unittest

from fineststep.books import Book, is_table
from fineststep.errors import BadSize, NoCell, TooWide
from fineststep.rows import primitive, support
from fineststep.turnings import is_turning, turning_within, turnings, turnings_through
from helpers import Case, names, random_rows, sample_books, signed, slow_turnings, wide_books

BOOK = Book(["a", "b", "c"], [[2, 1, 0], [0, 3, 3]])


class Turnings(Case):
    def test_the_example(self):
        self.assertEqual(list(turnings(BOOK)), [[2, 1, 0], [2, 0, -1], [0, 1, 1]])

    def test_it_is_a_generator_function(self):
        self.assertTrue(inspect.isgeneratorfunction(turnings))
        self.assertTrue(all(type(row) is list for row in turnings(BOOK)))

    def test_too_wide(self):
        for book in wide_books():
            iteration = turnings(book)
            self.raises_wide(book.size, TooWide, next, iteration)
            self.raises_wide(book.size, TooWide, turning_within, book, [-1])
            self.raises_wide(book.size, TooWide, turnings_through, book, -1)

    def test_edges(self):
        for size in (1, 5, 9):
            self.assertEqual(list(turnings(Book(names(size), []))), [])
            units = [[int(k == cell) for k in range(size)] for cell in range(size)]
            self.assertEqual(list(turnings(Book.free(names(size)))), units)
        self.assertEqual(list(turnings(Book(["a"], [[7]]))), [[1]])
        self.assertEqual(list(turnings(Book(["a"], [[0]]))), [])

    def test_the_order_by_supports(self):
        book = Book(names(4), [[1, 1, 0, 0], [0, 0, 1, 1], [0, 1, 1, 0]])
        self.assertEqual([support(row) for row in turnings(book)],
                         [[0, 1], [0, 2], [0, 3], [1, 2], [1, 3], [2, 3]])
        book = Book(names(3), [[1, 0, 1], [0, 1, 0]])
        self.assertEqual(list(turnings(book)), [[1, 0, 1], [0, 1, 0]])
        book = Book(names(4), [[1, 0, 1, 1], [0, 1, 1, 2]])
        self.assertEqual(list(turnings(book)), [[2, -1, 1, 0], [1, -1, 0, -1], [1, 0, 1, 1], [0, 1, 1, 2]])

    def test_many_books(self):
        for book in sample_books(7, 60):
            self.assertEqual(list(turnings(book)), slow_turnings(book))

    def test_books_of_nine_cells(self):
        rng = random.Random(18)
        for many in (2, 4, 5, 8):
            book = Book(names(9), random_rows(rng, many, 9))
            found = list(turnings(book))
            self.assertEqual(found, slow_turnings(book))
            for row in found:
                self.assertEqual((is_table(book, row), primitive(row), is_turning(book, row)), (True, row, True))

    def test_no_support_lies_within_another_one(self):
        for book in sample_books(7, 30, seed=19):
            for first, second in itertools.permutations([support(row) for row in turnings(book)], 2):
                self.assertFalse(set(first) <= set(second))


class Signed(Case):
    def test_signed_turnings(self):
        for book in sample_books(6, 40):
            for row in signed(slow_turnings(book)):
                self.assertIs(is_turning(book, row), True)
                self.assertIs(is_turning(book, [2 * x for x in row]), False)
                self.assertIs(is_turning(book, [(x, 2) if x % 2 else x // 2 for x in row]), False)

    def test_what_is_none(self):
        for row in ([0, 0, 0], [4, 2, 0], [-4, -2, 0], [1, (1, 2), 0], [2, 2, 1], [4, 1, -1], [1, 0, 0], [2, 1, 1],
                    [0, (1, 2), (1, 2)], [0, -3, -3]):
            self.assertIs(is_turning(BOOK, row), False)
        for row in ([2, 1, 0], [-2, -1, 0], [2, 0, -1], [0, -1, -1]):
            self.assertIs(is_turning(BOOK, row), True)
        self.assertIs(is_turning(Book(["a", "b"], []), [0, 0]), False)
        self.assertIs(is_turning(Book(["a", "b"], []), [1, 0]), False)

    def test_sums_of_turnings(self):
        book = Book.free(names(3))
        self.assertIs(is_turning(book, [1, 0, 1]), False)
        self.assertIs(is_turning(book, [0, 0, -1]), True)

    def test_small_rows(self):
        for book in sample_books(3, 30, seed=20):
            known = signed(slow_turnings(book))
            for row in itertools.product(range(-3, 4), repeat=book.size):
                self.assertIs(is_turning(book, list(row)), list(row) in known)

    def test_wide_books(self):
        book = Book(names(16), [[1] * 16])
        self.assertIs(is_turning(book, [1] * 16), True)
        self.assertIs(is_turning(book, [-1] * 16), True)
        self.assertIs(is_turning(book, [2] * 16), False)
        book = Book(names(10), [[1, 1] + [0] * 8, [0] * 9 + [5]])
        self.assertIs(is_turning(book, [1, 1] + [0] * 8), True)
        self.assertIs(is_turning(book, [0] * 9 + [1]), True)
        self.assertIs(is_turning(book, [1, 1] + [0] * 7 + [1]), False)

    def test_other_lengths(self):
        for row in ([], [2, 1], [2, 1, 0, 0]):
            self.raises(BadSize, is_turning, BOOK, row)
        self.raises(BadSize, is_turning, Book.free(names(12)), [1])


class Chosen(Case):
    def test_turning_within(self):
        self.assertEqual([turning_within(BOOK, [0, 1, 2]), turning_within(BOOK, [2, 0, 2]), turning_within(BOOK, [2, 1])],
                         [[2, 1, 0], [2, 0, -1], [0, 1, 1]])
        self.assertEqual([turning_within(BOOK, []), turning_within(BOOK, [1])], [None, None])
        for book in sample_books(5, 25):
            known = slow_turnings(book)
            for many in range(book.size + 1):
                for cells in itertools.combinations(range(book.size), many):
                    fitting = [row for row in known if set(support(row)) <= set(cells)]
                    self.assertEqual(turning_within(book, list(cells)), fitting[0] if fitting else None)

    def test_turnings_through(self):
        self.assertEqual([turnings_through(BOOK, cell) for cell in range(3)],
                         [[[2, 1, 0], [2, 0, -1]], [[2, 1, 0], [0, 1, 1]], [[2, 0, -1], [0, 1, 1]]])
        self.assertEqual(turnings_through(Book(["a", "b"], [[0, 1]]), 0), [])
        for book in sample_books(6, 20):
            for cell in range(book.size):
                self.assertEqual(turnings_through(book, cell), [row for row in slow_turnings(book) if row[cell] != 0])

    def test_errors(self):
        self.raises_cell(NoCell, 3, turning_within, BOOK, [0, 3, -1])
        self.raises_cell(NoCell, -1, turning_within, BOOK, [0, -1, 3])
        for cell in (-1, 3):
            self.raises_cell(NoCell, cell, turnings_through, BOOK, cell)


if __name__ == "__main__":
    unittest.main()
