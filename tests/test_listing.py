"""Points 21 and 26: table texts and columns."""

import random
import unittest

from fineststep.books import Book
from fineststep.errors import BadLine, BadSize, NotTable
from fineststep.listing import columns, read_table, write_table
from fineststep.models import Model
from helpers import Case, random_table, sample_books, wide_books

BOOK = Book(["a", "b", "c"], [[2, 1, 0], [0, 3, 3]])


class Texts(Case):
    def test_write_table(self):
        self.assertEqual(write_table(BOOK, [2, (1, 2), (-1, 2)]), "a 2\nb 1/2\nc -1/2")
        self.assertEqual(write_table(Book(["x"], []), [0]), "x 0")

    def test_write_table_errors(self):
        for table in ([], [0, 0], [0, 0, 0, 1]):
            self.raises(BadSize, write_table, BOOK, table)
        for table in ([0, 0, 1], [2, 1, (1, 2)]):
            self.raises(NotTable, write_table, BOOK, table)

    def test_reading_gives_the_table_again(self):
        rng = random.Random(15)
        for book in sample_books() + wide_books():
            table = random_table(rng, book)
            read = read_table(book, write_table(book, table))
            self.assertEqual(read, table)
            self.assert_numbers(read)

    def test_each_fault(self):
        for text, line, word in (
                ("", 1, 1), ("\n", 1, 1), (" a 2\nb 1\nc 0", 1, 1), ("b 1\na 2\nc 0", 1, 1), ("A 2\nb 1\nc 0", 1, 1),
                ("a\nb 1\nc 0", 1, 2), ("a \nb 1\nc 0", 1, 2), ("a  2\nb 1\nc 0", 1, 2), ("a x\nb 1\nc 0", 1, 2),
                ("a -0\nb 1\nc 0", 1, 2), ("a 2/4\nb 1\nc 0", 1, 2), ("a 1/00\nb 1\nc 0", 1, 2), ("a 2\nb 1\nc -3/000", 3, 2),
                ("a +2\nb 1\nc 0", 1, 2), ("a 2 \nb 1\nc 0", 1, 3),
                ("a 2 3\nb 1\nc 0", 1, 3), ("a 2\na 2\nc 0", 2, 1), ("a 2\n\nc 0", 2, 1), ("a 2\nb\nc 0", 2, 2),
                ("a 2\nb 1 x\nc 0", 2, 3), ("a 2\nb 1\nd 0", 3, 1), ("a 2", 2, 1), ("a 2\nb 1", 3, 1),
                ("a 2\n", 2, 1), ("a 2\nb 1\n", 3, 1), ("a 2\nb 1\nc 0\n", 4, 1), ("a 2\nb 1\nc 0\nd 0", 4, 1),
                ("a 2\nb 1\nc 0\n\n\n", 4, 1), ("a 2\nb 1\nc\nd 0", 3, 2), ("a x", 1, 2), ("a 2\nb", 2, 2),
                ("a 2\nb 1\nc " + "9" * 401, 3, 2)):
            with self.subTest(text=text):
                self.raises_line(line, word, BadLine, read_table, BOOK, text)

    def test_a_fault_comes_before_what_is_no_table(self):
        self.raises(NotTable, read_table, BOOK, "a 2\nb 1\nc 1")
        self.raises_line(3, 3, BadLine, read_table, BOOK, "a 2\nb 1\nc 1 ")
        self.raises_line(4, 1, BadLine, read_table, BOOK, "a 2\nb 1\nc 1\n")
        self.assertEqual(read_table(BOOK, "a 2\nb 1\nc 0"), [2, 1, 0])

    def test_long_numbers(self):
        big = 10 ** 399
        text = f"a {2 * big}\nb {big}\nc 0"
        self.assertEqual(read_table(BOOK, text), [2 * big, big, 0])
        self.assertEqual(write_table(BOOK, [2 * big, big, 0]), text)


class Columns(Case):
    def test_fields(self):
        model = Model(BOOK, [(0, 2), (None, (5, 2)), (None, None)])
        self.assertEqual(columns(model, [2, (1, 2), (-1, 2)]), [
            "a                        0             2             2",
            "b                        -           1/2           5/2",
            "c                        -          -1/2             -"])
        for line in columns(model, [0, 0, 0]):
            self.assertEqual(len(line), 12 + 3 * 14)

    def test_the_table_need_not_be_an_answer(self):
        model = Model(BOOK, [(5, 6), (5, 6), (5, 6)])
        self.assertEqual(columns(model, [0, 0, 0])[0], "a" + " " * 24 + "5" + " " * 13 + "0" + " " * 13 + "6")

    def test_texts_that_are_longer_than_their_fields(self):
        book = Book(["abcdefghijkl", "b"], [[1, 10 ** 20]])
        model = Model(book, [(None, 10 ** 13), (-10 ** 14, None)])
        self.assertEqual(columns(model, [1, 10 ** 20]), [
            "abcdefghijkl" + " " * 13 + "-" + " " * 13 + "1" + "10000000000000",
            "b" + " " * 11 + "-100000000000000" + "100000000000000000000" + " " * 13 + "-"])

    def test_errors(self):
        model = Model(BOOK, [(None, None)] * 3)
        for table in ([], [0, 0], [0, 0, 0, 1]):
            self.raises(BadSize, columns, model, table)
        for table in ([0, 0, 1], [2, 1, (1, 2)]):
            self.raises(NotTable, columns, model, table)


if __name__ == "__main__":
    unittest.main()
