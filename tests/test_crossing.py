"""Point 37: two turnings that share a cell."""

import unittest

from fineststep.books import Book
from fineststep.crossing import crossed
from fineststep.errors import BadCrossing, BadSize, NoCell, TooWide
from fineststep.rows import support
from helpers import Case, names, sample_books, signed, slow_turnings, wide_books

BOOK = Book(["a", "b", "c"], [[2, 1, 0], [0, 3, 3]])


class Crossed(Case):
    def test_some(self):
        self.assertEqual(crossed(BOOK, [2, 1, 0], [0, 1, 1], 1, 0), [2, 0, -1])
        self.assertEqual(crossed(BOOK, [-2, -1, 0], [0, 1, 1], 1, 0), [2, 0, -1])
        self.assertEqual(crossed(BOOK, [0, -1, -1], [2, 0, -1], 2, 1), [2, 1, 0])

    def test_all_of_many_books(self):
        for book in sample_books(5, 30):
            known = slow_turnings(book)
            rows = signed(known)
            for first in rows:
                for second in rows:
                    self.check(book, known, first, second)

    def check(self, book, known, first, second):
        """Makes sure that all pairs of cells give what point 37 says."""
        allowed = set(support(first)) | set(support(second))
        for away in range(book.size):
            for keep in range(book.size):
                if first[away] and second[away] and first[keep] and not second[keep]:
                    fitting = [row for row in known
                               if row[away] == 0 and row[keep] != 0 and set(support(row)) <= allowed]
                    self.assertEqual(crossed(book, first, second, away, keep), fitting[0])
                else:
                    self.raises(BadCrossing, crossed, book, first, second, away, keep)

    def test_books_of_nine_cells(self):
        book = Book(names(9), [[1, 0, 0, 1, 1, 1, 0, 0, 0], [0, 1, 0, 1, -1, 0, 1, 0, 2], [0, 0, 1, 0, 0, 1, 1, 1, 3]])
        known = slow_turnings(book)
        for first in known[:5]:
            for second in signed(known[-5:]):
                self.check(book, known, first, second)

    def test_each_condition_by_itself(self):
        first, second = [2, 1, 0], [0, 1, 1]
        self.raises(BadCrossing, crossed, BOOK, [4, 2, 0], second, 1, 0)
        self.raises(BadCrossing, crossed, BOOK, [1, (1, 2), 0], second, 1, 0)
        self.raises(BadCrossing, crossed, BOOK, [1, 1, 0], second, 1, 0)
        self.raises(BadCrossing, crossed, BOOK, first, [0, 3, 3], 1, 0)
        self.raises(BadCrossing, crossed, BOOK, first, [0, 1, 2], 1, 0)
        self.raises(BadCrossing, crossed, BOOK, first, [0, 0, 0], 1, 0)
        self.raises(BadCrossing, crossed, BOOK, [0, 0, 0], second, 1, 0)
        self.raises(BadCrossing, crossed, BOOK, first, second, 0, 0)
        self.raises(BadCrossing, crossed, BOOK, first, second, 2, 0)
        self.raises(BadCrossing, crossed, BOOK, first, second, 1, 1)
        self.raises(BadCrossing, crossed, BOOK, first, second, 1, 2)
        self.raises(BadCrossing, crossed, BOOK, first, [-2, -1, 0], 1, 0)
        self.raises(BadCrossing, crossed, BOOK, first, first, 1, 0)

    def test_the_order_of_the_errors(self):
        self.raises(BadSize, crossed, BOOK, [2, 1], [0, 1, 1], 9, 9)
        self.raises(BadSize, crossed, BOOK, [2, 1, 0, 0], [0], 9, 9)
        self.raises(BadSize, crossed, BOOK, [1, 0, 0], [0, 1], -1, 9)
        self.raises_cell(NoCell, -1, crossed, BOOK, [1, 0, 0], [0, 0, 0], -1, 9)
        self.raises_cell(NoCell, 3, crossed, BOOK, [1, 0, 0], [0, 0, 0], 3, -1)
        self.raises_cell(NoCell, 9, crossed, BOOK, [1, 0, 0], [0, 0, 0], 0, 9)
        self.raises_cell(NoCell, -1, crossed, BOOK, [2, 1, 0], [0, 1, 1], 1, -1)
        for book in wide_books():
            self.raises_wide(book.size, TooWide, crossed, book, [], [], -1, -1)


if __name__ == "__main__":
    unittest.main()
