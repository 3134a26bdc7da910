"""Points 93 and 94: reaches, whole turnings and whole parts."""

import random
import unittest

from fineststep.agreeing import put_together
from fineststep.books import Book, is_table, pivots
from fineststep.errors import BadSize, NotTable, NotWhole, TooMany, TooWide
from fineststep.finest import finest_step
from fineststep.turnings import turnings
from fineststep.wholes import is_whole_turning, reaches, whole_parts, whole_turnings
from helpers import Case, names, random_rows, signed, slow_turnings, special_books, wide_books
from wholly import is_below, product_of_reaches, slow_reaches, slow_whole_turnings, small_books, whole_tables_at

BOOK = Book(["a", "b", "c"], [[2, 1, 0], [0, 3, 3]])
HALVES = Book(["a", "b", "c"], [[2, 0, 1], [0, 2, 1]])
# The reach of the entries is 1249 and 1250, the product 2499 and 2501.
MOST = Book(["a", "b"], [[1249, 1]])
OVER = Book(["a", "b"], [[1250, 1]])


class Reaches(Case):
    def test_one_entry_has_the_greatest_step(self):
        self.assertEqual(reaches(Book(["a", "b", "c"], [[2, 0, -3]])), [2, 0, 3])

    def test_several_entries(self):
        # The turnings of BOOK are [2, 1, 0], [2, 0, -1] and [0, 1, 1].
        self.assertEqual(reaches(BOOK), [3, 1, 1])
        self.assertEqual(reaches(Book.free(names(3))), [2, 2, 2])

    def test_cells_at_which_every_turning_is_0(self):
        self.assertEqual(reaches(Book(names(4), [[0, 1, 0, 2], [0, 0, 0, 3]])), [0, 1, 0, 1])
        self.assertEqual(reaches(Book(names(3), [])), [0, 0, 0])

    def test_many_books(self):
        for book in special_books() + small_books(161, 60):
            self.assertEqual(reaches(book), slow_reaches(book))

    def test_too_wide(self):
        for book in wide_books():
            self.raises_wide(book.size, TooWide, reaches, book)

    def test_books_with_a_great_product_have_reaches(self):
        self.assertEqual(reaches(OVER), [1250, 1])
        self.assertEqual(reaches(Book.free(names(9))), [8] * 9)


class WholeTurnings(Case):
    def test_a_book_with_finest_step_above_1(self):
        # [1, 1, 1] is no turning, but no whole table is below it.
        self.assertEqual(whole_turnings(HALVES), [[1, -1, 0], [0, 2, 1], [1, 1, 1], [2, 0, 1]])

    def test_the_order_is_by_sums_and_then_as_lists(self):
        book = Book(["a", "b", "c", "d"], [[1, 0, 1, 0], [0, 1, -1, 2]])
        self.assertEqual(whole_turnings(book), [[1, 0, 1, 0], [0, 1, -1, 2], [1, 1, 0, 2]])
        self.assertEqual(whole_turnings(Book.free(names(3))), [[0, 0, 1], [0, 1, 0], [1, 0, 0]])

    def test_one_entry_and_none(self):
        self.assertEqual(whole_turnings(Book(names(3), [[0, (2, 3), -2]])), [[0, 1, -3]])
        self.assertEqual(whole_turnings(Book(names(3), [])), [])

    def test_against_a_search_of_all_whole_tables_within_the_reaches(self):
        more = 0
        for book in small_books(162, 70):
            found = whole_turnings(book)
            self.assertEqual(found, slow_whole_turnings(book), book.frame)
            more += len(found) > len(slow_turnings(book))
        self.assertGreater(more, 10)

    def test_nothing_beyond_the_reaches_is_missed(self):
        for book in small_books(163, 25, most=4, entries=2):
            if product_of_reaches(book) > 200:
                continue
            further = [range(-2 * reach - 1, 2 * reach + 2) for reach in (reaches(book)[entry] for entry in pivots(book))]
            found = signed(whole_turnings(book))
            for table in whole_tables_at(book, further):
                below = any(is_below(row, table) and row != table for row in found)
                self.assertEqual(table in found, any(table) and not below)

    def test_a_finest_step_of_1_gives_the_turnings(self):
        rng = random.Random(164)
        seen = 0
        for _ in range(60):
            size = rng.randint(1, 6)
            book = Book(names(size), random_rows(rng, rng.randint(1, min(3, size)), size, most=1, bottoms=(1,)))
            if finest_step(book) == 1 and product_of_reaches(book) <= 2500:
                self.assertEqual(sorted(whole_turnings(book)), sorted(turnings(book)))
                seen += 1
        self.assertGreater(seen, 20)

    def test_too_many(self):
        self.assertEqual(whole_turnings(MOST), [[1249, 1]])
        self.assertEqual(self.raises(TooMany, whole_turnings, OVER).many, 2501)
        self.assertEqual(self.raises(TooMany, whole_turnings, Book.free(names(5))).many, 9 ** 5)
        self.assertEqual(self.raises(TooMany, whole_turnings, Book.free(names(9))).many, 17 ** 9)
        self.assertEqual(len(whole_turnings(Book.free(names(4)))), 4)

    def test_sums_do_not_count_for_too_many(self):
        self.assertEqual(whole_turnings(Book(["a", "b"], [[1, 10 ** 30]])), [[1, 10 ** 30]])

    def test_too_wide_comes_first(self):
        for book in wide_books():
            self.raises_wide(book.size, TooWide, whole_turnings, book)


class IsWholeTurning(Case):
    def test_each_kind_of_row(self):
        for row in ([1, 1, 1], [-1, -1, -1], [2, 0, 1], [0, -2, -1], [1, -1, 0], (1, 1, 1)):
            self.assertIs(is_whole_turning(HALVES, row), True, row)
        for row in ([0, 0, 0], [2, 2, 2], [1, 0, (1, 2)], [4, 0, 2], [1, 1, 0], [3, 1, 2], [(1, 2), (1, 2), (1, 2)]):
            self.assertIs(is_whole_turning(HALVES, row), False, row)

    def test_a_turning_that_is_above_another_whole_table(self):
        self.assertIs(is_whole_turning(BOOK, [2, 1, 0]), True)
        self.assertIs(is_whole_turning(BOOK, [2, 2, 1]), False)

    def test_errors_in_their_order(self):
        wide = Book.free(names(10))
        self.raises_wide(10, TooWide, is_whole_turning, wide, [])
        self.raises(BadSize, is_whole_turning, OVER, [1])
        self.raises(BadSize, is_whole_turning, HALVES, [1, 1, 1, 0])
        self.assertEqual(self.raises(TooMany, is_whole_turning, OVER, [0, 0]).many, 2501)
        self.assertIs(is_whole_turning(MOST, [-1249, -1]), True)

    def test_many_books(self):
        for book in small_books(165, 40):
            found = signed(slow_whole_turnings(book))
            for row in found:
                self.assertIs(is_whole_turning(book, row), True)
                self.assertIs(is_whole_turning(book, [2 * x for x in row]), False)


def slow_whole_parts(book, table):
    """Returns the whole parts, sentence by sentence as point 94 says."""
    rows, rest, parts = signed(slow_whole_turnings(book)), list(table), []
    while any(rest):
        row = next(row for row in rows if is_below(row, rest))
        often = 1
        while is_below([(often + 1) * x for x in row], rest):
            often += 1
        parts.append((row, often))
        rest = [x - often * y for x, y in zip(rest, row)]
    return parts


class WholeParts(Case):
    def test_parts_that_come_several_times(self):
        self.assertEqual(whole_parts(HALVES, [5, 1, 3]), [([1, 1, 1], 1), ([2, 0, 1], 2)])
        self.assertEqual(whole_parts(HALVES, [6, 0, 3]), [([2, 0, 1], 3)])
        self.assertEqual(whole_parts(HALVES, [7, -7, 0]), [([1, -1, 0], 7)])
        self.assertEqual(whole_parts(HALVES, [10 ** 30, 0, 5 * 10 ** 29]), [([2, 0, 1], 5 * 10 ** 29)])

    def test_zeros_and_negatives(self):
        self.assertEqual(whole_parts(HALVES, [0, 0, 0]), [])
        self.assertEqual(whole_parts(Book(names(2), []), [0, 0]), [])
        self.assertEqual(whole_parts(HALVES, [-5, -1, -3]), [([-1, -1, -1], 1), ([-2, 0, -1], 2)])
        self.assertEqual(whole_parts(HALVES, (-1, 1, 0)), [([-1, 1, 0], 1)])

    def test_each_error_in_its_order(self):
        self.raises_wide(11, TooWide, whole_parts, Book.free(names(11)), [])
        self.raises(BadSize, whole_parts, OVER, [1])
        self.raises(NotTable, whole_parts, OVER, [1, (1, 2)])
        self.raises(NotTable, whole_parts, HALVES, [1, 0, 1])
        self.raises(NotWhole, whole_parts, OVER, [1, (1, 1250)])
        self.raises(NotWhole, whole_parts, HALVES, [1, 0, (1, 2)])
        self.assertEqual(self.raises(TooMany, whole_parts, OVER, [0, 0]).many, 2501)
        self.assertEqual(whole_parts(MOST, [1249, 1]), [([1249, 1], 1)])

    def test_many_tables(self):
        rng = random.Random(166)
        often = 0
        for book in small_books(167, 60):
            table = [0] * book.size
            for row in slow_whole_turnings(book):
                times = rng.choice([0, 0, 1, -1, 2, 5, -3])
                table = [x + times * y for x, y in zip(table, row)]
            parts = whole_parts(book, table)
            self.assertEqual(parts, slow_whole_parts(book, table))
            self.assertEqual(put_together(book.size, parts), table)
            for row, times in parts:
                self.assertIs(type(times), int)
                self.assertTrue(is_table(book, row) and times > 0 and is_below(row, table))
            often += any(times > 1 for _, times in parts)
        self.assertGreater(often, 10)


if __name__ == "__main__":
    unittest.main()
