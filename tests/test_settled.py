"""Point 27: what the numbers at some cells settle."""

import itertools
import random
import unittest

from fineststep.books import Book
from fineststep.errors import NoCell
from fineststep.settled import first_free, rank, settled, settling_rule
from helpers import Case, fractions, random_table, sample_books, tables_with_zeros, wide_books

BOOK = Book(["a", "b", "c"], [[2, 1, 0], [0, 3, 3]])


def slow_settled(book, cells):
    """Returns the cells at which every table is 0 that is 0 at the listed cells."""
    tables = tables_with_zeros(book, cells)
    return [cell for cell in range(book.size) if all(table[cell] == 0 for table in tables)]


def slow_first_free(book, cells):
    """Returns the first free cells by their definition."""
    kept = []
    for cell in sorted(set(cells)):
        if cell not in slow_settled(book, kept):
            kept.append(cell)
    return kept


class Settled(Case):
    def test_the_example(self):
        self.assertEqual(settling_rule(BOOK, [2, 1], 0), [(1, 2), (2, -2)])

    def test_the_empty_list(self):
        book = Book(["a", "b", "c"], [[0, 1, 0]])
        self.assertEqual([first_free(book, []), rank(book, []), settled(book, [])], [[], 0, [0, 2]])
        self.assertEqual([settling_rule(book, [], 0), settling_rule(book, [], 1)], [[], None])
        self.assertEqual([settled(BOOK, []), settling_rule(BOOK, [], 0)], [[], None])

    def test_cells_at_which_every_table_is_0(self):
        book = Book(["a", "b", "c"], [[0, 1, 2]])
        self.assertEqual([first_free(book, [0]), rank(book, [0]), settled(book, [0])], [[], 0, [0]])
        self.assertEqual([first_free(book, [0, 2]), settled(book, [2, 0])], [[2], [0, 1, 2]])
        self.assertEqual([settling_rule(book, [0, 2], 0), settling_rule(book, [0, 2], 1)], [[], [(2, (1, 2))]])
        zeros = Book(["a", "b"], [])
        self.assertEqual([first_free(zeros, [1, 0]), rank(zeros, [0]), settled(zeros, [])], [[], 0, [0, 1]])
        self.assertEqual(settling_rule(zeros, [1], 0), [])

    def test_repeats_and_any_order(self):
        for cells in ([2, 0], [0, 2, 0], (2, 2, 0, 0)):
            self.assertEqual([first_free(BOOK, cells), rank(BOOK, cells), settled(BOOK, cells)], [[0, 2], 2, [0, 1, 2]])
            self.assertEqual(settling_rule(BOOK, cells, 1), [(0, (1, 2)), (2, 1)])
            self.assertEqual(settling_rule(BOOK, cells, 2), [(2, 1)])
        self.assertEqual(first_free(BOOK, [2, 1, 0]), [0, 1])

    def test_a_cell_that_is_not_settled(self):
        self.assertIsNone(settling_rule(BOOK, [0], 1))
        self.assertEqual(settled(BOOK, [0]), [0])
        self.assertEqual(settling_rule(BOOK, [0], 0), [(0, 1)])

    def test_cells_out_of_range(self):
        for function in (first_free, rank, settled):
            self.raises_cell(NoCell, 3, function, BOOK, [0, 3, -1])
            self.raises_cell(NoCell, -1, function, BOOK, [-1, 3])
        self.raises_cell(NoCell, 3, settling_rule, BOOK, [3], -1)
        self.raises_cell(NoCell, -1, settling_rule, BOOK, [0], -1)
        self.raises_cell(NoCell, 3, settling_rule, BOOK, [], 3)

    def test_all_lists_of_cells_of_many_books(self):
        rng = random.Random(16)
        for book in sample_books(5, 25):
            table = random_table(rng, book)
            values = fractions(table)
            for many in range(book.size + 1):
                for cells in itertools.combinations(range(book.size), many):
                    free = slow_first_free(book, cells)
                    reached = slow_settled(book, cells)
                    self.assertEqual(first_free(book, list(cells)), free)
                    self.assertEqual(rank(book, list(cells)), len(free))
                    self.assertEqual(settled(book, list(cells)), reached)
                    for cell in range(book.size):
                        rule = settling_rule(book, list(cells), cell)
                        if cell not in reached:
                            self.assertIsNone(rule)
                            continue
                        places = [place for place, _ in rule]
                        self.assertEqual(places, sorted(set(places)))
                        self.assertTrue(set(places) <= set(free))
                        self.assertNotIn(0, [factor for _, factor in rule])
                        self.assert_numbers([factor for _, factor in rule])
                        total = sum(f * values[place] for (place, _), f in zip(rule, fractions([f for _, f in rule])))
                        self.assertEqual(total, values[cell])

    def test_wide_books(self):
        rng = random.Random(17)
        for book in wide_books():
            cells = [rng.randrange(book.size) for _ in range(6)]
            self.assertEqual(settled(book, cells), slow_settled(book, cells))
            self.assertEqual(first_free(book, cells), slow_first_free(book, cells))


if __name__ == "__main__":
    unittest.main()
