"""Points 89 to 92: whole tables, and lists against them."""

import itertools
import random
import unittest
from fractions import Fraction
from math import lcm

from fineststep.books import Book, is_table, other_side, pivots
from fineststep.errors import BadOrder, BadSize, NoCell, NotTable, NotWhole
from fineststep.exact import bottom_of, top_of
from fineststep.finest import finest_step
from fineststep.rests import whole_at, whole_frame, whole_times
from helpers import Case, fractions, names, random_rows, sample_books, special_books

BOOK = Book(["a", "b", "c"], [[3, 0, 2], [0, 3, 1]])


def factors_of(book):
    """Returns the Fractions with which the entries count in each cell, and the common bottom of them all."""
    factors = [[Fraction(row[cell], row[entry]) for row, entry in zip(book.frame, pivots(book))] for cell in range(book.size)]
    return factors, lcm(*[factor.denominator for line in factors for factor in line])


def table_from(factors, values):
    """Returns the table with these numbers at the entries, None if it is not whole."""
    table = [sum((x * y for x, y in zip(line, values)), Fraction(0)) for line in factors]
    return [int(x) for x in table] if all(x.denominator == 1 for x in table) else None


def slow_frame(book):
    """Returns the whole frame, found by trying numbers from the last entry to the first one."""
    factors, bottom = factors_of(book)
    many = len(book.frame)
    found = []
    for k in range(many - 1, -1, -1):
        later = [range(row[pivots(book)[k + 1 + at]]) for at, row in enumerate(found)]
        tries = ([0] * k + [number] + list(values) for number in range(1, bottom + 1) for values in itertools.product(*later))
        found.insert(0, next(table for table in (table_from(factors, values) for values in tries) if table is not None))
    return found


def small_books(seed, many=60):
    """Returns books whose whole frames are found soon by trying."""
    rng = random.Random(seed)
    books = [book for book in special_books() if book.size <= 5]
    while len(books) < many:
        size = rng.randint(2, 5)
        book = Book(names(size), random_rows(rng, rng.randint(1, 3), size, most=4))
        if factors_of(book)[1] in range(2 if len(books) % 4 else 1, 13):
            books.append(book)
    return books


class Frames(Case):
    def test_the_example(self):
        self.assertEqual(whole_frame(BOOK), [[1, 1, 1], [0, 3, 1]])

    def test_free_books_and_the_book_without_tables(self):
        self.assertEqual(whole_frame(Book.free(names(3))), [[1, 0, 0], [0, 1, 0], [0, 0, 1]])
        self.assertEqual(whole_frame(Book(names(3), [])), [])
        self.assertEqual(whole_frame(Book(names(3), [[0, 0, 0]])), [])

    def test_finest_steps_above_1(self):
        self.assertEqual(whole_frame(Book(["a", "b"], [[2, 3]])), [[2, 3]])
        self.assertEqual(whole_frame(Book(["a", "b", "c"], [[2, 0, 1], [0, 2, 1]])), [[1, 1, 1], [0, 2, 1]])
        self.assertEqual(whole_frame(Book(["a", "b", "c"], [[2, 0, 1], [0, 3, 1]])), [[2, 0, 1], [0, 3, 1]])
        self.assertEqual(whole_frame(Book(names(4), [[4, 0, 1, 2], [0, 6, 1, 3]])), slow_frame(Book(names(4), [[4, 0, 1, 2], [0, 6, 1, 3]])))

    def test_entries_that_are_not_the_first_cells(self):
        book = Book(names(4), [[0, 2, 1, 0], [0, 0, 0, 5]])
        self.assertEqual(whole_frame(book), [[0, 2, 1, 0], [0, 0, 0, 1]])

    def test_numbers_below_0_at_later_entries_do_not_occur(self):
        book = Book(["a", "b", "c"], [[3, 0, -2], [0, 3, 1]])
        self.assertEqual(whole_frame(book), [[1, 2, 0], [0, 3, 1]])

    def test_many_books(self):
        coarse = 0
        for book in small_books(151):
            found = whole_frame(book)
            self.assertEqual(found, slow_frame(book))
            self.assertTrue(all(type(row) is list and all(type(x) is int for x in row) for row in found))
            coarse += finest_step(book) > 1
        self.assertGreater(coarse, 30)

    def test_long_numbers_and_wide_books(self):
        rng = random.Random(152)
        for size, many in ((16, 15), (16, 8), (12, 11)):
            rows = [[rng.randint(1, 10 ** 20) if k == cell else 0 for k in range(many)]
                    + [rng.randint(-10 ** 20, 10 ** 20) for _ in range(size - many)] for cell in range(many)]
            book = Book(names(size), rows)
            found, entries = whole_frame(book), pivots(book)
            for k, row in enumerate(found):
                self.assertTrue(is_table(book, row))
                self.assertTrue(all(type(x) is int for x in row))
                self.assertEqual(row[:entries[k]], [0] * entries[k])
                self.assertGreater(row[entries[k]], 0)
                for later in range(k + 1, many):
                    self.assertTrue(0 <= row[entries[later]] < found[later][entries[later]])


class Times(Case):
    def test_the_example(self):
        self.assertEqual(whole_times(BOOK, [2, 5, 3]), [2, 1])

    def test_zeros(self):
        self.assertEqual(whole_times(BOOK, [0, 0, 0]), [0, 0])
        self.assertEqual(whole_times(Book(["a"], []), [0]), [])

    def test_sums_of_multiples(self):
        rng = random.Random(153)
        for book in small_books(153, 40) + sample_books(9, 20, seed=153):
            frame = whole_frame(book)
            for _ in range(5):
                factors = [rng.randint(-9, 9) for _ in frame]
                table = [sum(factor * row[cell] for factor, row in zip(factors, frame)) for cell in range(book.size)]
                self.assertEqual(whole_times(book, table), factors)
                self.assertEqual(whole_times(book, tuple(table)), factors)

    def test_every_whole_table_has_whole_times(self):
        for book in small_books(154, 30):
            if len(book.frame) > 2:
                continue
            factors = factors_of(book)[0]
            frame = whole_frame(book)
            for values in itertools.product(range(-5, 6), repeat=len(book.frame)):
                table = table_from(factors, values)
                if table is not None:
                    found = whole_times(book, table)
                    self.assertTrue(all(type(x) is int for x in found))
                    self.assertEqual([sum(x * row[cell] for x, row in zip(found, frame)) for cell in range(book.size)], table)

    def test_errors(self):
        for table in ([], [1, 1], [0] * 4, [(1, 2)]):
            self.raises(BadSize, whole_times, BOOK, table)
        for table in ([1, 1, 0], [(1, 2), 0, 0], [1, 0, 1]):
            self.raises(NotTable, whole_times, BOOK, table)
        for table in ([(3, 2), 0, 1], [1, 0, (2, 3)], [0, (1, 2), (1, 6)]):
            self.raises(NotWhole, whole_times, BOOK, table)


class At(Case):
    def dot(self, first, second):
        """Returns the sum of the products as a Fraction."""
        return sum((x * y for x, y in zip(fractions(first), fractions(second))), Fraction(0))

    def check(self, book, cells, numbers):
        """Makes sure that the result is what points 91 and 92 say; returns its word."""
        result = whole_at(book, cells, numbers)
        self.assertEqual((type(result), len(result)), (tuple, 2))
        word, found = result
        self.assertIs(type(found), list)
        self.assertEqual(len(found), book.size)
        if word == "table":
            self.assertTrue(all(type(x) is int for x in found))
            self.assertTrue(is_table(book, found))
            self.assertEqual([found[cell] for cell in cells], list(numbers))
            return word
        self.assert_numbers(found)
        self.assertTrue(all(found[cell] == 0 for cell in range(book.size) if cell not in cells))
        total = self.dot([found[cell] for cell in cells], numbers)
        if word == "row":
            self.assertTrue(is_table(other_side(book), found))
            self.assertNotEqual(total, 0)
        else:
            self.assertEqual(word, "rest")
            self.assertNotEqual(total.denominator, 1)
            for row in whole_frame(book):
                self.assertEqual(self.dot(found, row).denominator, 1)
        return word

    def test_each_result(self):
        self.assertEqual(self.check(BOOK, [0, 1], [2, 5]), "table")
        self.assertEqual(self.check(BOOK, [0, 1], [2, 4]), "rest")
        self.assertEqual(self.check(BOOK, [0, 1, 2], [2, 5, 4]), "row")
        self.assertEqual(self.check(BOOK, [2], [7]), "table")
        book = Book(["a", "b"], [[2, 4]])
        self.assertEqual([self.check(book, [1], [6]), self.check(book, [1], [5]), self.check(book, [0, 1], [1, 3])],
                         ["table", "rest", "row"])
        book = Book(["a", "b"], [[2, 3]])
        self.assertEqual([self.check(book, [0], [k]) for k in (0, 1, 2, 3, -2, -3)], ["table", "rest"] * 2 + ["table", "rest"])

    def test_no_cells(self):
        for book in (BOOK, Book(["a"], []), Book.free(["a"])):
            self.assertEqual(self.check(book, [], []), "table")

    def test_cells_that_are_0_in_all_tables(self):
        book = Book(["a", "b"], [[0, 1]])
        self.assertEqual([self.check(book, [0], [0]), self.check(book, [0], [3]), self.check(book, [1, 0], [5, 0])],
                         ["table", "row", "table"])
        self.assertEqual(self.check(Book(names(3), []), [2, 0], [0, -1]), "row")

    def test_any_order_of_cells(self):
        for cells, numbers in (([0, 1, 2], [2, 5, 3]), ([0, 2], [2, 3]), ([1, 2], [5, 3])):
            for order in itertools.permutations(range(len(cells))):
                self.assertEqual(self.check(BOOK, [cells[k] for k in order], [numbers[k] for k in order]), "table")
        for cells, numbers in (([0, 1], [2, 4]), ([0, 1, 2], [2, 5, 4])):
            words = {self.check(BOOK, [cells[k] for k in order], [numbers[k] for k in order])
                     for order in itertools.permutations(range(len(cells)))}
            self.assertEqual(len(words), 1)

    def test_many_books(self):
        rng = random.Random(155)
        counts = {"table": 0, "row": 0, "rest": 0}
        for book in small_books(155):
            for _ in range(6):
                cells = rng.sample(range(book.size), rng.randint(0, book.size))
                # Each result that holds is a proof of its word, so nothing else is looked at.
                counts[self.check(book, cells, [rng.randint(-4, 4) for _ in cells])] += 1
        self.assertGreater(min(counts.values()), 20, counts)

    def test_whole_tables_are_found(self):
        rng = random.Random(156)
        for book in small_books(156) + sample_books(9, 30, seed=156):
            frame = whole_frame(book)
            factors = [rng.randint(-5, 5) for _ in frame]
            table = [sum(x * row[cell] for x, row in zip(factors, frame)) for cell in range(book.size)]
            cells = rng.sample(range(book.size), rng.randint(0, book.size))
            self.assertEqual(self.check(book, cells, [table[cell] for cell in cells]), "table")

    def test_long_numbers(self):
        rng = random.Random(157)
        big = 10 ** 20 - 1
        words = set()
        for _ in range(12):
            many = rng.randint(1, 15)
            rows = [[rng.randint(1, big) if k == cell else 0 for k in range(many)]
                    + [rng.randint(-big, big) for _ in range(16 - many)] for cell in range(many)]
            book = Book(names(16), rows)
            cells = rng.sample(range(16), rng.randint(0, 16))
            frame = whole_frame(book)
            table = [sum(row[cell] for row in frame) for cell in range(16)]
            numbers = [table[cell] if abs(table[cell]) <= big else rng.randint(-big, big) for cell in cells]
            words.add(self.check(book, cells, numbers))
            found = whole_at(book, cells, numbers)[1]
            self.assertTrue(all(len(str(abs(top_of(x)))) <= 4000 and len(str(bottom_of(x))) <= 4000 for x in found))
        self.assertGreater(len(words), 1)

    def test_errors_in_their_order(self):
        self.raises_cell(NoCell, 3, whole_at, BOOK, [0, 0, 3], [(1, 2)])
        self.raises_cell(NoCell, -1, whole_at, BOOK, [-1], [0])
        self.raises(BadOrder, whole_at, BOOK, [0, 1, 0], [(1, 2)])
        self.raises(BadOrder, whole_at, BOOK, [2, 2], [1, 1])
        for numbers in ([], [0], [(1, 2)], [0, 0, 0]):
            self.raises(BadSize, whole_at, BOOK, [0, 1], numbers)
        self.raises(BadSize, whole_at, BOOK, [], [0])
        self.raises(NotWhole, whole_at, BOOK, [0, 1], [0, (1, 2)])
        self.raises(NotWhole, whole_at, Book(["a"], []), [0], [(1, 2)])


if __name__ == "__main__":
    unittest.main()
