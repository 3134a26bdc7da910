"""Points 62 and 63: the least width."""

import random
import unittest
from fractions import Fraction

from fineststep.barring import barring
from fineststep.books import Book
from fineststep.boxes import widened
from fineststep.errors import BadSize, BadWeight, TooWide
from fineststep.models import Model
from fineststep.widths import least_width, width_row
from helpers import Case, fraction, names, number_of, random_number, sample_models, slow_signed_prices, wide_books
from slow import slow_has, slow_width, slow_worth

BOOK = Book(["a", "b", "c"], [[1, 0, 1], [0, 1, 1]])
FREE = (None, None)
MODEL = Model(BOOK, [(0, 2), (0, 1), (5, 6)])


class Widths(Case):
    def test_a_whole_and_a_fractional_width(self):
        self.assertEqual(least_width(MODEL, [1, 0, 1]), 1)
        self.assertEqual(least_width(MODEL, [1, 1, 1]), (2, 3))
        self.assertEqual(least_width(MODEL, [0, 0, (1, 2)]), 4)
        self.assertEqual(least_width(MODEL, (1, 2, 0)), (2, 3))

    def test_a_width_of_0(self):
        self.assertEqual(least_width(Model(BOOK, [(0, 2), (0, 1), (3, 6)]), [1, 1, 1]), 0)
        self.assertEqual(least_width(Model(BOOK, [FREE] * 3), [0, 0, 0]), 0)
        self.assertIsNone(width_row(Model(BOOK, [(0, 2), (0, 1), (3, 6)]), [1, 1, 1]))

    def test_no_least_width(self):
        self.assertIsNone(least_width(MODEL, [0, 0, 0]))
        self.assertEqual(width_row(MODEL, [0, 0, 0]), [1, 1, -1])
        zeros = Model(Book(names(3), []), [(1, 2), (1, 2), (1, 2)])
        self.assertIsNone(least_width(zeros, [1, 0, 1]))
        self.assertEqual(width_row(zeros, [1, 0, 1]), [0, -1, 0])

    def test_weights_of_0_at_cells_that_are_used(self):
        self.assertEqual(least_width(MODEL, [0, 0, 1]), 2)
        self.assertEqual(least_width(MODEL, [0, 1, 0]), 2)

    def test_the_row_that_needs_the_width(self):
        zeros = Model(Book(names(3), []), [(1, 2), (-3, -2), (2, 2)])
        self.assertEqual([least_width(zeros, [1, 1, 1]), width_row(zeros, [1, 1, 1])], [2, [0, 1, 0]])
        self.assertEqual([least_width(zeros, [1, 2, 1]), width_row(zeros, [1, 2, 1])], [2, [0, 0, -1]])
        self.assertEqual([least_width(zeros, [2, 2, 4]), width_row(zeros, [2, 2, 4])], [1, [0, 1, 0]])
        self.assertEqual([least_width(zeros, [(1, 3), 2, 4]), width_row(zeros, [(1, 3), 2, 4])], [3, [-1, 0, 0]])
        self.assertIs(type(width_row(zeros, [1, 1, 1])), list)

    def test_many_models(self):
        rng = random.Random(58)
        cases = {"none": 0, "zero": 0, "other": 0}
        for model in sample_models(6, 90, seed=58) + sample_models(4, 60, seed=59):
            weights = [number_of(abs(fraction(random_number(rng)))) for _ in model.box]
            expected = slow_width(model.book, model.box, weights)
            found = least_width(model, weights)
            self.assertEqual(found, None if expected is None else number_of(expected))
            needed = []
            for row in slow_signed_prices(model.book):
                worth = slow_worth(row, model.box)
                if worth is not None and worth < 0:
                    pull = sum(abs(x) * fraction(weight) for x, weight in zip(row, weights))
                    needed.append((row, -worth / pull if pull else None))
            wanted = None if expected is None else expected
            fitting = [row for row, width in needed if width == wanted]
            self.assertEqual(width_row(model, weights), fitting[0] if fitting else None)
            cases["none" if found is None else "other" if found != 0 else "zero"] += 1
        self.assertTrue(all(many > 10 for many in cases.values()), cases)

    def test_at_the_least_width_and_below_it(self):
        rng = random.Random(60)
        for model in sample_models(5, 60, seed=60):
            weights = [rng.randint(0, 3) for _ in model.box]
            width = least_width(model, weights)
            if width is None:
                self.assertFalse(slow_has(model.book, widened(model.box, weights, 10 ** 9)))
                continue
            for more in (0, Fraction(1, 3), 5):
                self.assertTrue(slow_has(model.book, widened(model.box, weights, number_of(fraction(width) + more))))
            if width != 0:
                self.assertIsNotNone(barring(model))
                for part in (Fraction(0), Fraction(1, 2), Fraction(999, 1000)):
                    self.assertFalse(slow_has(model.book, widened(model.box, weights, number_of(fraction(width) * part))))


class Errors(Case):
    def test_errors(self):
        for function in (least_width, width_row):
            for weights in ([], [1, 1], [1, 1, 1, 1], [-1]):
                self.raises(BadSize, function, MODEL, weights)
            for weights in ([-1, 1, 1], [1, 1, (-1, 9)], [0, -5, 0]):
                self.raises(BadWeight, function, MODEL, weights)
            self.raises(BadWeight, function, Model(BOOK, [FREE] * 3), [1, -1, 1])

    def test_too_wide(self):
        for book in wide_books():
            model = Model(book, [(1, 2)] * book.size)
            self.raises_wide(book.size, TooWide, least_width, model, [-1])
            self.raises_wide(book.size, TooWide, width_row, model, [-1])


if __name__ == "__main__":
    unittest.main()
