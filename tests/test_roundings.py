"""Points 113 and 114: roundings, and the table that is shown."""

import itertools
import random
import unittest

from fineststep.books import Book, is_table, pivots
from fineststep.errors import BadSize, NotTable, TooMany, TooWide
from fineststep.exact import is_whole
from fineststep.finest import finest_step
from fineststep.models import Model
from fineststep.picks import pick_answer
from fineststep.roundings import count_roundings, roundings, show_table
from helpers import Case, fractions, names, random_rows, sample_books
from slow import slow_within
from wholly import broken_table

BOOK = Book(["a", "b", "c"], [[1, 0, 1], [0, 1, 1]])
HALVES = Book(["a", "b", "c"], [[2, 0, 1], [0, 2, 1]])


def box_around(table):
    """Returns the floor and the ceiling of each number."""
    return [(x.numerator // x.denominator, -(-x.numerator // x.denominator)) for x in fractions(table)]


def slow_roundings(book, table):
    """Returns all roundings: each number of the table is rounded down and up."""
    found = []
    for numbers in itertools.product(*[sorted(set(ends)) for ends in box_around(table)]):
        if is_table(book, list(numbers)):
            found.append(list(numbers))
    return found


def free_table(many, size=10):
    """Returns a table of a free book with so many numbers that are not whole."""
    return [(2 * k + 1, 2) if k < many else k for k in range(size)]


class Roundings(Case):
    def test_whole_tables_and_others(self):
        self.assertEqual(list(roundings(BOOK, [1, -2, -1])), [[1, -2, -1]])
        self.assertEqual(list(roundings(BOOK, [(1, 2), (1, 2), 1])), [[0, 1, 1], [1, 0, 1]])
        self.assertEqual(list(roundings(BOOK, [(1, 2), (1, 3), (5, 6)])), [[0, 0, 0], [0, 1, 1], [1, 0, 1]])
        self.assertEqual(list(roundings(BOOK, ((-1, 2), (-1, 3), (-5, 6)))), [[-1, 0, -1], [0, -1, -1], [0, 0, 0]])
        self.assertEqual(list(roundings(Book(names(2), []), [0, 0])), [[0, 0]])

    def test_books_with_finest_step_above_1(self):
        # a and b are 0 or 1, and c is their mean.
        self.assertEqual(list(roundings(HALVES, [(1, 2), (1, 2), (1, 2)])), [[0, 0, 0], [1, 1, 1]])
        self.assertEqual(list(roundings(HALVES, [1, 0, (1, 2)])), [])
        self.assertEqual((count_roundings(HALVES, [1, 0, (1, 2)]), count_roundings(HALVES, [1, 1, 1])), (0, 1))

    def test_many_tables(self):
        rng = random.Random(261)
        found = []
        for book in sample_books(7, 60, seed=261):
            table = broken_table(rng, book)
            expected = slow_roundings(book, table)
            self.assertEqual(list(roundings(book, table)), expected)
            self.assertEqual(count_roundings(book, table), len(expected))
            found.append(len(expected))
        self.assertTrue({0, 1, 2} <= set(found) and max(found) > 3, found)

    def test_too_many(self):
        free = Book.free(names(10))
        for function in (count_roundings, lambda *args: next(roundings(*args))):
            self.assertEqual(self.raises(TooMany, function, free, free_table(10)).many, 1024)
        self.assertEqual(count_roundings(free, free_table(9)), 512)
        self.assertEqual(len(list(roundings(free, free_table(9)))), 512)
        self.assertEqual(self.raises(TooMany, count_roundings, Book.free(names(16)), free_table(16, 16)).many, 2 ** 16)

    def test_only_entries_count_for_too_many(self):
        book = Book(names(16), [[1] * 16])
        self.assertEqual(list(roundings(book, [(1, 2)] * 16)), [[0] * 16, [1] * 16])

    def test_errors_when_the_first_value_is_asked_for(self):
        for table, error in (([0] * 9, BadSize), ([0] * 11, BadSize)):
            iteration = roundings(Book.free(names(10)), table)
            self.raises(error, next, iteration)
        iteration = roundings(BOOK, [(1, 2), 0, 0])
        self.raises(NotTable, next, iteration)
        self.raises(TooMany, next, roundings(Book.free(names(10)), free_table(10)))
        self.raises(NotTable, next, roundings(Book(names(16), []), free_table(16, 16)))
        self.raises(BadSize, count_roundings, BOOK, [0, 0])
        self.raises(NotTable, count_roundings, BOOK, [(1, 2), 0, 0])


class ShowTable(Case):
    def test_halves_go_up_where_they_can(self):
        self.assertEqual(show_table(BOOK, [(1, 2), (1, 2), 1]), [1, 0, 1])
        self.assertEqual(show_table(BOOK, [(-1, 2), (1, 2), 0]), [0, 0, 0])
        self.assertEqual(show_table(BOOK, [(1, 3), (1, 3), (2, 3)]), [0, 0, 0])
        self.assertEqual(show_table(BOOK, [(2, 3), (2, 3), (4, 3)]), [1, 1, 2])
        self.assertEqual(show_table(BOOK, [(1, 3), (2, 3), 1]), [0, 1, 1])
        self.assertEqual(show_table(BOOK, [3, -4, -1]), [3, -4, -1])

    def test_finest_steps_above_1(self):
        self.assertEqual(show_table(HALVES, [1, 0, (1, 2)]), [1, 0, (1, 2)])
        self.assertEqual(show_table(HALVES, [(1, 2), 0, (1, 4)]), [1, 0, (1, 2)])

    def test_errors_in_their_order(self):
        self.raises_wide(10, TooWide, show_table, Book.free(names(10)), [])
        self.raises(BadSize, show_table, BOOK, [0, 0])
        self.raises(NotTable, show_table, BOOK, [(1, 2), 0, 0])

    def test_many_tables(self):
        rng = random.Random(262)
        fine = 0
        for _ in range(60):
            size = rng.randint(1, 6)
            book = Book(names(size), random_rows(rng, rng.randint(1, size), size, most=1, bottoms=(1,)))
            table = broken_table(rng, book)
            shown = show_table(book, table)
            toward = [(2 * x.numerator + x.denominator) // (2 * x.denominator) for x in fractions(table)]
            self.assertEqual(shown, pick_answer(Model(book, box_around(table)), toward=toward))
            self.assertTrue(slow_within(shown, box_around(table)) and is_table(book, shown))
            if finest_step(book) == 1:
                self.assertIn(shown, list(roundings(book, table)))
                fine += not all(is_whole(table[entry]) for entry in pivots(book))
        self.assertGreater(fine, 15)


if __name__ == "__main__":
    unittest.main()
