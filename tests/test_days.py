"""Point 121: a whole table is parted into days."""

import random
import unittest

from fineststep.books import Book
from fineststep.days import is_parting, parted
from fineststep.errors import BadDays, BadSize, CoarseBook, NotTable, NotWhole, TooWide
from fineststep.finest import finest_step
from fineststep.models import Model
from fineststep.picks import pick_answer
from helpers import Case, names, random_rows

BOOK = Book(["a", "b", "c"], [[1, 0, 1], [0, 1, 1]])
HALVES = Book(["a", "b", "c"], [[2, 0, 1], [0, 2, 1]])


def slow_parts(book, whole, days):
    """Returns the days, one after the other as point 121 says."""
    floors = [y // days for y in whole]
    ceilings = [-(-y // days) for y in whole]
    parts = []
    for m in range(days, 0, -1):
        rest = [y - sum(part[cell] for part in parts) for cell, y in enumerate(whole)]
        box = [(max(f, r - (m - 1) * c), min(c, r - (m - 1) * f)) for f, c, r in zip(floors, ceilings, rest)]
        parts.append(pick_answer(Model(book, box)))
    return parts


def fine_books(seed, many, most=6):
    """Returns books with finest step 1."""
    rng = random.Random(seed)
    books = []
    while len(books) < many:
        size = rng.randint(1, most)
        book = Book(names(size), random_rows(rng, rng.randint(0, min(4, size)), size, most=1, bottoms=(1,)))
        if finest_step(book) == 1:
            books.append(book)
    return books


class Parted(Case):
    def test_1_day_and_several(self):
        self.assertEqual(parted(BOOK, [3, 4, 7], 1), [[3, 4, 7]])
        self.assertEqual(parted(BOOK, [3, 4, 7], 2), [[1, 2, 3], [2, 2, 4]])
        self.assertEqual(parted(BOOK, (1, 1, 2), 3), [[0, 0, 0], [0, 1, 1], [1, 0, 1]])
        self.assertEqual(parted(Book(names(2), []), [0, 0], 2), [[0, 0], [0, 0]])

    def test_whole_tables_below_0(self):
        self.assertEqual(parted(BOOK, [-3, -4, -7], 2), [[-1, -2, -3], [-2, -2, -4]])
        self.assertEqual(parted(Book.free(["a"]), [-5], 3), [[-1], [-2], [-2]])

    def test_12_days_at_most(self):
        self.assertEqual(len(parted(BOOK, [30, -7, 23], 12)), 12)
        for days in (0, -1, 13, 100):
            self.raises(BadDays, parted, BOOK, [0, 0, 0], days)

    def test_errors_in_their_order(self):
        self.raises_wide(10, TooWide, parted, Book.free(names(10)), [], 0)
        self.raises(BadSize, parted, HALVES, [2, 0], 0)
        self.raises(NotTable, parted, HALVES, [2, 0, 2], 0)
        self.raises(NotWhole, parted, HALVES, [1, 0, (1, 2)], 0)
        self.raises(BadDays, parted, HALVES, [2, 0, 1], 0)
        self.raises(BadDays, parted, HALVES, [2, 0, 1], 13)
        self.assertEqual(self.raises(CoarseBook, parted, HALVES, [2, 0, 1], 1).step, 2)
        self.assertEqual(self.raises(CoarseBook, parted, HALVES, [2, 0, 1], 12).step, 2)

    def test_many_tables(self):
        rng = random.Random(301)
        for book in fine_books(301, 60):
            whole = [0] * book.size
            for row in book.frame:
                times = rng.randint(-15, 15)
                whole = [x + times * y for x, y in zip(whole, row)]
            days = rng.randint(1, 12)
            parts = parted(book, whole, days)
            self.assertEqual(parts, slow_parts(book, whole, days))
            self.assertEqual(len(parts), days)
            self.assertIs(is_parting(book, whole, parts), True)


class IsParting(Case):
    def test_other_orders(self):
        self.assertIs(is_parting(BOOK, [3, 4, 7], [[2, 2, 4], [1, 2, 3]]), True)
        self.assertIs(is_parting(BOOK, (3, 4, 7), [[1, 2, 3], [2, 2, 4]]), True)
        self.assertIs(is_parting(BOOK, [3, 4, 7], [[3, 4, 7]]), True)

    def test_another_sum(self):
        self.assertIs(is_parting(BOOK, [3, 4, 7], [[1, 2, 3], [1, 2, 3]]), False)
        self.assertIs(is_parting(BOOK, [3, 4, 7], [[3, 4, 7], [0, 0, 0]]), False)

    def test_parts_that_are_no_roundings(self):
        # The sum is right, but 0 is not around 3/2; then a part that is not whole, and one that is no table.
        self.assertIs(is_parting(BOOK, [3, 4, 7], [[3, 2, 5], [0, 2, 2]]), False)
        self.assertIs(is_parting(BOOK, [3, 4, 7], [[(3, 2), 2, (7, 2)], [(3, 2), 2, (7, 2)]]), False)
        self.assertIs(is_parting(BOOK, [3, 4, 7], [[1, 2, 4], [2, 2, 3]]), False)

    def test_parts_of_another_length(self):
        for part in ([], [2, 2], [2, 2, 4, 0]):
            self.assertIs(is_parting(BOOK, [3, 4, 7], [[1, 2, 3], part]), False)

    def test_coarse_and_wide_books(self):
        self.assertIs(is_parting(HALVES, [2, 2, 2], [[1, 1, 1], [1, 1, 1]]), True)
        self.assertIs(is_parting(HALVES, [2, 0, 1], [[2, 0, 1]]), True)
        wide = Book(names(16), [[1] * 16])
        self.assertIs(is_parting(wide, [5] * 16, [[2] * 16, [3] * 16]), True)
        self.assertIs(is_parting(wide, [5] * 16, [[1] * 16, [4] * 16]), False)
        self.assertIs(is_parting(wide, [13] * 16, [[1] * 16] * 13), True)

    def test_errors_in_their_order(self):
        for parts in ([], [[0, 0, 0]]):
            self.raises(BadSize, is_parting, HALVES, [2, 0], parts)
            self.raises(NotTable, is_parting, HALVES, [2, 0, 2], parts)
            self.raises(NotWhole, is_parting, HALVES, [1, 0, (1, 2)], parts)
        self.raises(BadDays, is_parting, HALVES, [2, 0, 1], [])


if __name__ == "__main__":
    unittest.main()
