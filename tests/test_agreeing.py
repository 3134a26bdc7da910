"""Points 34 and 35: tables as sums of turnings that agree with them."""

import random
import unittest

from fineststep.agreeing import agreeing_parts, put_together
from fineststep.books import Book
from fineststep.errors import BadSize, NotTable, TooWide
from fineststep.finest import steps
from fineststep.rows import support
from helpers import (Case, fraction, fractions, names, number_of, numbers_of, random_table, sample_books, signed,
                     slow_agrees, slow_turnings, wide_books)

BOOK = Book(["a", "b", "c"], [[2, 1, 0], [0, 3, 3]])


def slow_parts(book, table):
    """Returns the parts just as point 34 finds them."""
    rows = signed(slow_turnings(book))
    rest, parts = fractions(table), []
    while any(rest):
        row = next(row for row in rows if slow_agrees(row, numbers_of(rest)))
        t = min(rest[k] / x for k, x in enumerate(row) if x != 0)
        parts.append((row, number_of(t)))
        rest = [x - t * y for x, y in zip(rest, row)]
    return parts


class Parts(Case):
    def check(self, book, table):
        """Makes sure that the parts are those of point 34 and have the properties of point 35."""
        parts = agreeing_parts(book, table)
        self.assertEqual(parts, slow_parts(book, table))
        self.assertIs(type(parts), list)
        self.assertEqual(put_together(book.size, parts), table)
        self.assertLessEqual(len(parts), min(len(book.frame), len(support(table))))
        for row, times in parts:
            self.assertIs(type(row), list)
            self.assert_number(times)
            self.assertGreater(fraction(times), 0)
            self.assertTrue(slow_agrees(row, table))
        supports = [support(row) for row, _ in parts]
        self.assertEqual(len(supports), len(set(map(tuple, supports))))
        return parts

    def test_some_parts(self):
        self.assertEqual(agreeing_parts(BOOK, [0, 0, 0]), [])
        self.assertEqual(agreeing_parts(BOOK, [2, 2, 1]), [([2, 1, 0], 1), ([0, 1, 1], 1)])
        self.assertEqual(agreeing_parts(BOOK, [-2, -2, -1]), [([-2, -1, 0], 1), ([0, -1, -1], 1)])
        self.assertEqual(agreeing_parts(BOOK, [0, (1, 2), (1, 2)]), [([0, 1, 1], (1, 2))])
        self.assertEqual(agreeing_parts(BOOK, [3, 1, (-1, 2)]), [([2, 1, 0], 1), ([2, 0, -1], (1, 2))])

    def test_zeros(self):
        for book in sample_books(6, 20):
            self.assertEqual(agreeing_parts(book, [0] * book.size), [])

    def test_signed_turnings_and_multiples_of_them(self):
        for book in sample_books(6, 30):
            for row in signed(slow_turnings(book)):
                self.assertEqual(agreeing_parts(book, row), [(row, 1)])
                self.assertEqual(agreeing_parts(book, [5 * x for x in row]), [(row, 5)])
                self.assertEqual(agreeing_parts(book, numbers_of(x * fraction((2, 3)) for x in row)), [(row, (2, 3))])

    def test_whole_tables_and_tables_of_fractions(self):
        rng = random.Random(22)
        for book in sample_books(7, 60):
            self.check(book, random_table(rng, book))
            self.check(book, random_table(rng, book, bottoms=(1,)))
            self.check(book, random_table(rng, book, most=9, bottoms=(2, 3, 5)))

    def test_whole_times_where_all_steps_are_1(self):
        rng = random.Random(23)
        book = Book(names(6), [[1, 0, 0, 1, 1, 0], [0, 1, 0, -1, 0, 1], [0, 0, 1, 0, -1, -1]])
        self.assertEqual(steps(book), [1])
        for _ in range(40):
            for _, times in self.check(book, random_table(rng, book, bottoms=(1,))):
                self.assertIs(type(times), int)

    def test_errors(self):
        for table in ([], [0, 0], [0, 0, 0, 1]):
            self.raises(BadSize, agreeing_parts, BOOK, table)
        for table in ([1, 0, 0], [2, 1, (1, 2)]):
            self.raises(NotTable, agreeing_parts, BOOK, table)
        for book in wide_books():
            self.raises_wide(book.size, TooWide, agreeing_parts, book, [])


class Together(Case):
    def test_put_together(self):
        self.assertEqual(put_together(3, [([2, 1, 0], (1, 2)), ([0, 1, 1], 2)]), [1, (5, 2), 2])
        self.assertEqual(put_together(2, [([1, -1], 1), ([-1, 1], 1)]), [0, 0])
        self.assertEqual(put_together(2, [([(1, 2), 1], 2)]), [1, 2])

    def test_without_parts(self):
        self.assertEqual([put_together(0, []), put_together(1, []), put_together(20, [])], [[], [0], [0] * 20])


if __name__ == "__main__":
    unittest.main()
