"""Points 8 to 13: books."""

import random
import unittest
from fractions import Fraction
from math import gcd

from fineststep.books import Book, cell_of, is_table, other_side, pivots, same_book, table_of
from fineststep.errors import BadName, BadSize, NoCell
from helpers import (Case, fractions, kernel, names, number_of, numbers_of, random_number, random_rows, random_table,
                     reduced, sample_books, wide_books)

ROWS = [[2, 1, 0], [0, 3, 3]]


class Names(Case):
    def test_the_number_of_names(self):
        self.raises(BadSize, Book, [], [])
        self.raises(BadSize, Book, names(17), [])
        self.raises(BadSize, Book.free, [])
        self.raises(BadSize, Book.free, names(17))
        self.assertEqual(Book(names(1), []).size, 1)
        self.assertEqual(Book(names(16), []).size, 16)
        self.assertEqual(Book.free(names(16)).size, 16)

    def test_bad_names(self):
        for name in ("", "A", "1", "1a", "a_b", "a b", " a", "a ", "a-", "aB", "a" * 13, "-a", "a\n", "\na", "a/b", "~"):
            self.raises(BadName, Book, [name], [])
            self.raises(BadName, Book, ["a", name], [])
            self.raises(BadName, Book.free, [name, "a"])

    def test_a_name_twice(self):
        self.raises(BadName, Book, ["a", "b", "a"], [])
        self.raises(BadName, Book.free, ["a", "a"])

    def test_good_names(self):
        good = ["a", "z", "a1", "z9", "b0", "a" * 12, "abcdefghijkl", "a00000000009", "entry", "sum", "from"]
        self.assertEqual(Book(good, []).names, tuple(good))
        self.assertEqual(Book(tuple(good), ()).names, tuple(good))

    def test_the_order_of_the_errors(self):
        self.raises(BadSize, Book, ["A"] * 17, [[1]])
        self.raises(BadName, Book, ["A", "b"], [[1]])
        self.raises(BadName, Book, ["a", "a"], [[1]])
        self.raises(BadSize, Book, ["a", "b"], [[1]])
        self.raises(BadSize, Book, ["a", "b"], [[1, 2], [1, 2, 3]])
        self.raises(BadSize, Book, ["a", "b"], [[]])


class Frames(Case):
    def test_the_example(self):
        self.assertEqual(Book(["a", "b", "c"], ROWS).frame, ((2, 0, -1), (0, 1, 1)))

    def test_fields(self):
        book = Book(["a", "b", "c"], ROWS)
        self.assertEqual((book.names, book.size), (("a", "b", "c"), 3))
        self.assertIs(type(book.names), tuple)
        self.assertIs(type(book.frame), tuple)
        self.assertTrue(all(type(row) is tuple for row in book.frame))

    def test_books_without_tables_but_zeros(self):
        for rows in ([], (), [[0, 0]], [[0, 0], [0, 0]]):
            book = Book(["a", "b"], rows)
            self.assertEqual((book.frame, pivots(book)), ((), []))
            self.assertEqual(table_of(book, []), [0, 0])
            self.assertIs(is_table(book, [0, 0]), True)
            self.assertIs(is_table(book, [0, 1]), False)

    def test_rows_that_depend_on_each_other(self):
        self.assertEqual(Book(["a", "b"], [[1, 2], [2, 4], [(-1, 2), -1], [0, 0]]).frame, ((1, 2),))
        self.assertEqual(Book(["a", "b", "c"], [[1, 1, 0], [0, 1, 1], [1, 2, 1]]).frame, ((1, 0, -1), (0, 1, 1)))

    def test_rows_of_fractions(self):
        self.assertEqual(Book(["a", "b"], [[(1, 2), (1, 3)]]).frame, ((3, 2),))
        self.assertEqual(Book(["a", "b"], [[(-1, 2), (1, 3)]]).frame, ((3, -2),))
        self.assertEqual(Book(["a", "b", "c"], [[(1, 2), 0, (1, 4)], [0, (2, 3), 5]]).frame, ((2, 0, 1), (0, 2, 15)))

    def test_more_rows_than_cells(self):
        self.assertEqual(Book(["a"], [[k] for k in range(40)]).frame, ((1,),))

    def test_the_free_book(self):
        self.assertEqual(Book.free(["a", "b"]).frame, ((1, 0), (0, 1)))
        self.assertIs(type(Book.free(["a"])), Book)
        rng = random.Random(1)
        for size in (1, 5, 16):
            book = Book.free(names(size))
            self.assertEqual(pivots(book), list(range(size)))
            self.assertIs(is_table(book, random_rows(rng, 1, size)[0]), True)

    def test_long_numbers(self):
        big = 10 ** 80
        self.assertEqual(Book(["a", "b"], [[big, big + 1]]).frame, ((big, big + 1),))
        self.assertEqual(Book(["a", "b"], [[big, 1], [1, big]]).frame, ((1, 0), (0, 1)))

    def test_the_frame_is_the_only_list_that_point_10_describes(self):
        rng = random.Random(8)
        for _ in range(150):
            size = rng.randint(1, 8)
            rows = random_rows(rng, rng.randint(0, size + 1), size)
            frame = Book(names(size), rows).frame
            entries = [next(k for k, x in enumerate(row) if x != 0) for row in frame]
            self.assertEqual(entries, sorted(set(entries)))
            for row, entry in zip(frame, entries):
                self.assertTrue(all(type(x) is int for x in row))
                self.assertGreater(row[entry], 0)
                self.assertEqual([row[other] for other in entries if other != entry], [0] * (len(entries) - 1))
                self.assertEqual(gcd(*row), 1)
            found, places = reduced(rows, size)
            self.assertEqual(entries, places)
            self.assertEqual([[Fraction(x, row[entry]) for x in row] for row, entry in zip(frame, entries)], found)

    def test_pivots(self):
        self.assertEqual(pivots(Book(["a", "b", "c"], ROWS)), [0, 1])
        self.assertEqual(pivots(Book(["a", "b", "c"], [[0, 1, 0], [0, 0, 1]])), [1, 2])
        self.assertEqual(pivots(Book(["a", "b", "c"], [[0, 2, 4], [0, 1, 2]])), [1])


class Tables(Case):
    def test_cell_of(self):
        book = Book(["a", "b", "c1"], ROWS)
        self.assertEqual([cell_of(book, name) for name in ("a", "b", "c1")], [0, 1, 2])
        for name in ("d", "", "A", "c", "not a name"):
            self.raises_cell(NoCell, name, cell_of, book, name)

    def test_is_table(self):
        book = Book(["a", "b", "c"], ROWS)
        for table in ([0, 0, 0], [2, 1, 0], [(1, 2), 0, (-1, 4)], [0, (1, 3), (1, 3)], [2, 0, -1]):
            self.assertIs(is_table(book, table), True)
        for table in ([0, 0, 1], [1, 0, 0], [2, 1, 1], [0, (1, 3), (1, 2)]):
            self.assertIs(is_table(book, table), False)
        for table in ([], [0, 0], [0, 0, 0, 0]):
            self.raises(BadSize, is_table, book, table)

    def test_the_example_of_table_of(self):
        self.assertEqual(table_of(Book(["a", "b", "c"], ROWS), [3, (1, 2)]), [3, (1, 2), -1])

    def test_table_of_refuses_other_lengths(self):
        book = Book(["a", "b", "c"], ROWS)
        for values in ([], [1], [1, 2, 3]):
            self.raises(BadSize, table_of, book, values)

    def test_tables_of_many_books(self):
        rng = random.Random(9)
        for book in sample_books() + wide_books():
            entries = pivots(book)
            values = [random_number(rng) for _ in entries]
            table = table_of(book, values)
            self.assert_numbers(table)
            self.assertEqual([table[entry] for entry in entries], values)
            self.assertIs(is_table(book, table), True)
            self.assertIs(is_table(book, random_table(rng, book)), True)
            for cell in range(book.size):
                if cell not in entries:
                    wrong = list(table)
                    wrong[cell] = number_of(fractions([wrong[cell]])[0] + 1)
                    self.assertIs(is_table(book, wrong), False)

    def test_same_book(self):
        book = Book(["a", "b", "c"], ROWS)
        self.assertIs(same_book(book, book), True)
        self.assertIs(same_book(book, Book(("a", "b", "c"), [[2, 0, -1], [4, 2, 0], [0, 0, 0]])), True)
        self.assertIs(same_book(book, Book(["a", "c", "b"], ROWS)), False)
        self.assertIs(same_book(book, Book(["a", "b", "c"], [[2, 0, -1]])), False)
        self.assertIs(same_book(book, Book(["a", "b"], [[2, 1], [0, 3]])), False)


class Sides(Case):
    def test_the_example(self):
        self.assertEqual(other_side(Book(["a", "b", "c"], ROWS)).frame, ((1, -2, 2),))

    def test_zeros_and_free_are_each_others_other_side(self):
        self.assertTrue(same_book(other_side(Book(names(4), [])), Book.free(names(4))))
        self.assertTrue(same_book(other_side(Book.free(names(16))), Book(names(16), [])))
        self.assertEqual(other_side(Book(["a"], [[5]])).frame, ())
        self.assertEqual(other_side(Book(["a"], [])).frame, ((1,),))

    def test_many_books(self):
        for book in sample_books() + wide_books():
            other = other_side(book)
            self.assertIs(type(other), Book)
            self.assertEqual(other.names, book.names)
            self.assertEqual(len(pivots(book)) + len(pivots(other)), book.size)
            self.assertTrue(same_book(other, Book(book.names, [numbers_of(x) for x in kernel(book.frame, book.size)])))
            self.assertTrue(same_book(other_side(other), book))


if __name__ == "__main__":
    unittest.main()
