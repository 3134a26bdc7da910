"""Points 42 to 45: plain books."""

import itertools
import random
import unittest

from fineststep.books import Book, pivots
from fineststep.errors import BadSquare, NoCell, NotEntry, NotPlain, TooWide
from fineststep.finest import finest_step
from fineststep.plain import halves, is_plain, least_bad_square, square_worth, uneven_group
from helpers import Case, names, sample_books, wide_books

COARSE = Book(["a", "b", "c"], [[2, 1, 0], [0, 3, 3]])
TREE = Book(names(4), [[1, 0, 1, 0], [0, 1, 1, 1]])
BAD = Book(names(4), [[1, 0, 1, 1], [0, 1, 1, -1]])


def plain_books(most=7, many=60, seed=30):
    """Returns plain books, also some of 9 cells; their entries are anywhere."""
    rng = random.Random(seed)
    books = [Book(names(3), []), Book.free(names(1)), Book.free(names(5)), Book.free(names(9)), TREE, BAD]
    while len(books) < many:
        size = rng.randint(1, most) if len(books) < many - 4 else 9
        entries = rng.randint(0, size)
        places = sorted(rng.sample(range(size), entries))
        rows = []
        for entry in places:
            row = [rng.choice([-1, 0, 0, 1, 1]) if k > entry and k not in places else 0 for k in range(size)]
            row[entry] = 1
            rows.append(row)
        books.append(Book(names(size), rows))
    return books


def slow_worth(book, sums, entries):
    """Returns the determinant as a sum over all orders."""
    rows = [row for row, entry in zip(book.frame, pivots(book)) if entry in entries]
    total = 0
    for order in itertools.permutations(range(len(rows))):
        turns = sum(1 for i, j in itertools.combinations(order, 2) if i > j)
        product = -1 if turns % 2 else 1
        for cell, k in zip(sorted(sums), order):
            product *= rows[k][cell]
        total += product
    return total


def slow_halves(book, group):
    """Returns the halves whose first list comes first, or None."""
    group = sorted(set(group))
    rows = {entry: row for row, entry in zip(book.frame, pivots(book))}
    found = []
    for signs in itertools.product((1, -1), repeat=len(group)):
        if signs and signs[0] == -1:
            continue
        totals = [sum(sign * rows[entry][cell] for sign, entry in zip(signs, group)) for cell in range(book.size)]
        if all(-1 <= total <= 1 for total in totals):
            found.append(([e for s, e in zip(signs, group) if s == 1], [e for s, e in zip(signs, group) if s == -1]))
    return min(found) if found else None


class Plain(Case):
    def test_is_plain(self):
        self.assertEqual([is_plain(book) for book in (COARSE, TREE, BAD, Book(["a"], []), Book.free(names(16)))],
                         [False, True, True, True, True])
        self.assertIs(is_plain(Book(["a", "b"], [[1, 2]])), False)
        self.assertIs(is_plain(Book(["a", "b"], [[2, 2]])), True)
        self.assertIs(is_plain(Book(["a", "b"], [[1, -2]])), False)
        self.assertIs(is_plain(Book(["a", "b"], [[1, -1]])), True)
        for book in sample_books() + wide_books():
            self.assertIs(is_plain(book), all(x in (-1, 0, 1) for row in book.frame for x in row))


class Squares(Case):
    def test_the_empty_square(self):
        for book in plain_books() + [Book.free(names(16))]:
            self.assertEqual(square_worth(book, [], []), 1)

    def test_all_squares(self):
        for book in plain_books(6, 40):
            entries = pivots(book)
            sums = [cell for cell in range(book.size) if cell not in entries]
            bad = None
            for many in range(1, min(len(sums), len(entries)) + 1):
                for lines in itertools.combinations(sums, many):
                    for places in itertools.combinations(entries, many):
                        worth = slow_worth(book, lines, places)
                        self.assertEqual(square_worth(book, list(lines), list(places)), worth)
                        self.assertEqual(square_worth(book, list(lines)[::-1], list(places)[::-1] * 2), worth)
                        if bad is None and worth not in (-1, 0, 1):
                            bad = (list(lines), list(places), worth)
            self.assertEqual(least_bad_square(book), bad)
            if bad is not None:
                self.assertIn(bad[2], (2, -2))

    def test_bad_squares(self):
        self.assertEqual(least_bad_square(BAD), ([2, 3], [0, 1], -2))
        self.assertIsNone(least_bad_square(TREE))
        self.assertIsNone(least_bad_square(Book(names(9), [])))
        self.assertIsNone(least_bad_square(Book.free(names(9))))
        book = Book(names(6), [[1, 0, 0, 1, 1, 0], [0, 1, 0, 1, 0, 1], [0, 0, 1, 0, 1, 1]])
        self.assertEqual(least_bad_square(book), ([3, 4, 5], [0, 1, 2], -2))
        book = Book(names(9), [[1, 0, 0, 1, 1, 0, 1, 1, 1], [0, 1, 0, 1, 0, 1, 1, -1, 1], [0, 0, 1, 0, 1, 1, 0, 0, 0]])
        self.assertEqual(least_bad_square(book), ([3, 7], [0, 1], -2))

    def test_of_several_the_list_of_sums_comes_first(self):
        book = Book(names(7), [[1, 0, 0, 0, 0, 1, 1], [0, 1, 0, 1, 1, 1, -1], [0, 0, 1, 1, -1, 0, 0]])
        self.assertEqual(least_bad_square(book), ([3, 4], [1, 2], -2))
        book = Book(names(6), [[1, 0, 0, 0, 1, 1], [0, 1, 0, 0, 1, -1], [0, 0, 1, 0, 1, 1], [0, 0, 0, 1, 1, -1]])
        self.assertEqual(least_bad_square(book), ([4, 5], [0, 1], -2))

    def test_wide_squares(self):
        rng = random.Random(32)
        rows = [[int(k == cell) for k in range(8)] + [1 if k >= cell else 0 for k in range(8)] for cell in range(8)]
        book = Book(names(16), rows)
        self.assertEqual(square_worth(book, list(range(8, 16)), list(range(8))), 1)
        self.assertEqual(square_worth(book, list(range(9, 16)), list(range(7))), 0)
        ring = [[int(k == cell) for k in range(7)] + [int(k in (cell, (cell + 1) % 7)) for k in range(7)] for cell in range(7)]
        self.assertEqual(abs(square_worth(Book(names(14), ring), list(range(7, 14)), list(range(7)))), 2)
        for order in itertools.permutations(range(4)):
            rows = [[int(k == cell) for k in range(4)] + [int(k == order[cell]) for k in range(4)] for cell in range(4)]
            book = Book(names(8), rows)
            self.assertEqual(square_worth(book, [4, 5, 6, 7], [0, 1, 2, 3]), slow_worth(book, [4, 5, 6, 7], [0, 1, 2, 3]))
        for many in (5, 6):
            rows = [[int(k == cell) for k in range(many)] + [rng.choice([-1, 0, 1]) for _ in range(many)]
                    for cell in range(many)]
            book = Book(names(2 * many), rows)
            sums, entries = list(range(many, 2 * many)), list(range(many))
            self.assertEqual(square_worth(book, sums, entries), slow_worth(book, sums, entries))

    def test_square_worth_errors(self):
        self.raises_cell(NoCell, 4, square_worth, TREE, [0, 4, -1], [9])
        self.raises_cell(NoCell, -1, square_worth, COARSE, [2], [0, -1, 7])
        self.raises_cell(NoCell, 3, square_worth, COARSE, [3], [0])
        self.raises(NotPlain, square_worth, COARSE, [2], [0])
        self.raises(NotPlain, square_worth, COARSE, [0], [0, 1])
        for sums, entries in (([2], []), ([], [0]), ([2, 3], [0]), ([2], [0, 1]), ([0], [1]), ([2], [3]), ([0], [0]),
                              ([2, 0], [0, 1]), ([2, 3], [0, 3]), ([2, 2], [0, 1]), ([2, 3], [0, 0])):
            self.raises(BadSquare, square_worth, TREE, sums, entries)

    def test_repeats_make_no_difference(self):
        self.assertEqual(square_worth(BAD, [3, 2, 3], [1, 0, 0]), -2)
        self.assertEqual(square_worth(BAD, [2, 2], [0]), 1)

    def test_least_bad_square_errors(self):
        self.raises(NotPlain, least_bad_square, COARSE)
        for book in wide_books():
            self.raises_wide(book.size, TooWide, least_bad_square, book)


class Groups(Case):
    def test_the_empty_group(self):
        for book in plain_books():
            self.assertEqual(halves(book, []), ([], []))

    def test_any_order_and_repeats(self):
        self.assertEqual(halves(TREE, [1, 0, 1, 1, 0]), ([0], [1]))
        self.assertEqual(halves(TREE, (1,)), ([1], []))
        self.assertIsNone(halves(BAD, [1, 0, 0]))

    def test_all_groups(self):
        for book in plain_books(6, 50):
            uneven = []
            entries = pivots(book)
            for many in range(len(entries) + 1):
                for group in itertools.combinations(entries, many):
                    found = halves(book, list(group))
                    self.assertEqual(found, slow_halves(book, group))
                    if found is None:
                        uneven.append(list(group))
            self.assertEqual(uneven_group(book), uneven[0] if uneven else None)

    def test_the_first_of_several_halves(self):
        book = Book(names(5), [[1, 0, 0, 0, 1], [0, 1, 0, 0, 1], [0, 0, 1, 0, -1], [0, 0, 0, 1, -1]])
        self.assertEqual(halves(book, [0, 1, 2, 3]), ([0, 1, 2, 3], []))
        self.assertEqual(halves(Book.free(names(3)), [0, 1, 2]), ([0], [1, 2]))
        self.assertEqual(halves(book, [0, 2]), ([0, 2], []))
        self.assertEqual(halves(book, [0, 1]), ([0], [1]))

    def test_the_finest_step_of_plain_books(self):
        for book in plain_books(7, 80, seed=31):
            finest = finest_step(book)
            self.assertTrue(finest == 1 or finest % 2 == 0)
            self.assertEqual(least_bad_square(book) is None, finest == 1)
            self.assertEqual(uneven_group(book) is None, finest == 1)

    def test_uneven_groups(self):
        self.assertEqual(uneven_group(BAD), [0, 1])
        self.assertIsNone(uneven_group(TREE))
        self.assertIsNone(uneven_group(Book(names(9), [])))
        book = Book(names(6), [[1, 0, 0, 1, 1, 0], [0, 1, 0, 1, 0, 1], [0, 0, 1, 0, 1, 1]])
        self.assertEqual(uneven_group(book), [0, 1, 2])

    def test_errors(self):
        self.raises_cell(NoCell, 4, halves, TREE, [2, 4, -1])
        self.raises_cell(NoCell, -1, halves, COARSE, [-1, 3])
        self.raises(NotPlain, halves, COARSE, [2])
        self.raises(NotPlain, halves, COARSE, [])
        self.raises_cell(NotEntry, 3, halves, TREE, [0, 3, 2])
        self.raises_cell(NotEntry, 2, halves, TREE, [2, 3])
        self.raises(NotPlain, uneven_group, COARSE)
        for book in wide_books():
            self.raises_wide(book.size, TooWide, halves, book, [-1])
            self.raises_wide(book.size, TooWide, uneven_group, book)


if __name__ == "__main__":
    unittest.main()
