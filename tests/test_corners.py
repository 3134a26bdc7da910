"""Point 86: corners."""

import itertools
import random
import unittest

from engine import box_of
from fineststep.books import Book
from fineststep.corners import corners, is_corner
from fineststep.errors import BadSize, TooWide
from fineststep.models import Model
from fineststep.picks import pick_answer
from helpers import (Case, engine_models, fraction, fractions, names, numbers_of, random_number, roomy_models, sample_models,
                     slow_bases, tables_with_zeros, wide_books)
from slow import slow_has, slow_span, slow_table, slow_within

BOOK = Book(["a", "b", "c"], [[1, 0, 1], [0, 1, 1]])
FREE = (None, None)


def slow_is_corner(model, table):
    """Returns True if the table, which is one of the book, is a corner."""
    if not slow_within(table, model.box):
        return False
    held = [cell for cell, ends in enumerate(box_of(model)) if fraction(table[cell]) in ends]
    return not tables_with_zeros(model.book, held)


def slow_corners(model):
    """Returns the corners as lists of Fractions, in order."""
    found = set()
    for basis in slow_bases(model.book):
        for ends in itertools.product(*[[end for end in box_of(model)[cell] if end is not None] for cell in basis]):
            table = slow_table(model.book, basis, list(ends))
            if slow_within(numbers_of(table), model.box):
                found.add(tuple(table))
    return [list(table) for table in sorted(found)]


class Corners(Case):
    def test_two_cells(self):
        model = Model(BOOK, [(0, 2), (0, 2), (1, 3)])
        self.assertEqual(corners(model), [[0, 1, 1], [0, 2, 2], [1, 0, 1], [1, 2, 3], [2, 0, 2], [2, 1, 3]])

    def test_fractions(self):
        book = Book(["a", "b", "c"], [[2, 1, 0], [0, 3, 3]])
        model = Model(book, [(0, 1), (0, 3), ((1, 2), 5)])
        self.assertEqual(corners(model), [[0, (1, 2), (1, 2)], [0, 3, 3], [1, 1, (1, 2)], [1, 3, (5, 2)]])
        for table in corners(model):
            self.assert_numbers(table)

    def test_without_a_corner(self):
        self.assertEqual(corners(Model(BOOK, [FREE] * 3)), [])
        self.assertEqual(corners(Model(BOOK, [(0, 1), FREE, FREE])), [])
        self.assertEqual(corners(Model(BOOK, [(0, 2), (0, 1), (5, 6)])), [])
        self.assertEqual(corners(Model(Book(["a"], []), [(1, 2)])), [])

    def test_one_corner(self):
        self.assertEqual(corners(Model(BOOK, [(0, None), (0, None), FREE])), [[0, 0, 0]])
        self.assertEqual(corners(Model(Book(names(2), []), [FREE] * 2)), [[0, 0]])
        self.assertEqual(corners(Model(Book.free(["a"]), [((1, 2), (1, 2))])), [[(1, 2)]])
        self.assertEqual(corners(Model(Book.free(["a"]), [(-1, 2)])), [[-1], [2]])

    def test_many_bases_of_one_corner(self):
        book = Book(names(4), [[1, 0, 1, 1], [0, 1, 1, -1]])
        self.assertEqual(corners(Model(book, [(0, None)] * 3 + [FREE])), [[0, 0, 0, 0]])
        self.assertEqual(corners(Model(book, [(0, None)] * 4)), [[0, 0, 0, 0]])

    def test_the_widest_small_books(self):
        model = Model(Book.free(names(6)), [(0, 1)] * 6)
        self.assertEqual(corners(model), [list(table) for table in itertools.product((0, 1), repeat=6)])
        book = Book(names(6), [[1, 0, 0, 1, 1, 0], [0, 1, 0, 1, 0, 1], [0, 0, 1, 0, 1, 1]])
        model = Model(book, [(0, 2), (0, 2), (0, 2), (1, 3), (1, 3), (1, 3)])
        self.assertEqual([fractions(table) for table in corners(model)], slow_corners(model))
        self.assertGreater(len(corners(model)), 8)

    def test_many_models(self):
        many = 0
        for model in sample_models(6, 50, seed=131) + roomy_models(40, 131) + engine_models(5, 30, seed=131):
            found = corners(model)
            self.assertEqual([fractions(table) for table in found], slow_corners(model))
            for table in found:
                self.assertTrue(slow_is_corner(model, table))
            many += len(found)
        self.assertGreater(many, 150)

    def test_the_least_price_is_that_of_a_corner(self):
        rng = random.Random(132)
        tried = 0
        for model in roomy_models(40, 132) + sample_models(5, 30, seed=132):
            found = corners(model)
            for _ in range(3):
                prices = [random_number(rng) for _ in model.box]
                span = slow_span(model.book, model.box, prices)
                if found and span[0] is not None:
                    worths = [sum(x * y for x, y in zip(fractions(table), fractions(prices))) for table in found]
                    self.assertEqual(min(worths), span[0])
                    tried += 1
        self.assertGreater(tried, 40)

    def test_too_wide(self):
        for size in (7, 9, 16):
            self.raises_wide(size, TooWide, corners, Model(Book(names(size), []), [FREE] * size))
        for book in wide_books():
            self.raises_wide(book.size, TooWide, corners, Model(book, [(0, 1)] * book.size))
        self.assertEqual(corners(Model(Book(names(6), []), [FREE] * 6)), [[0] * 6])


class IsCorner(Case):
    MODEL = Model(BOOK, [(0, 2), (0, 2), (1, 3)])

    def test_each_condition(self):
        for table in ([0, 1, 1], [0, 2, 2], [1, 0, 1], [2, 1, 3], (1, 2, 3)):
            self.assertIs(is_corner(self.MODEL, table), True)
        # An answer with too few ends, or none; no answer; no table.
        for table in ([1, 1, 2], [0, (3, 2), (3, 2)], [(1, 2), (1, 2), 1], [0, 0, 0], [2, 2, 4], [0, 2, 1], [2, 2, 3], [3, 0, 3]):
            self.assertIs(is_corner(self.MODEL, table), False)

    def test_wide_books(self):
        model = Model(Book.free(names(16)), [(0, 1)] * 16)
        self.assertIs(is_corner(model, [0, 1] * 8), True)
        self.assertIs(is_corner(model, [0, 1] * 7 + [0, (1, 2)]), False)
        self.assertIs(is_corner(Model(Book(names(16), [[1] * 16]), [FREE] * 15 + [(0, 1)]), [1] * 16), True)

    def test_many_models(self):
        rng = random.Random(133)
        counts = {True: 0, False: 0}
        for model in roomy_models(60, 133):
            if slow_has(model.book, model.box):
                table = pick_answer(model, toward=[rng.choice([-9, 0, 9]) for _ in model.box])
                expected = slow_is_corner(model, table)
                self.assertIs(is_corner(model, table), expected)
                counts[expected] += 1
        self.assertGreater(min(counts.values()), 10)

    def test_bad_size(self):
        for numbers in ([], [0, 0], [0] * 4):
            self.raises(BadSize, is_corner, self.MODEL, numbers)


if __name__ == "__main__":
    unittest.main()
