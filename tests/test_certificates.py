"""Point 70: what shows an answer, or that there is none."""

import random
import unittest

from fineststep.barring import barring
from fineststep.books import Book
from fineststep.certificates import shows_best, shows_none, shows_unbounded
from fineststep.errors import BadSize
from fineststep.models import Model
from helpers import (Case, fraction, fractions, names, number_of, random_number, random_table, sample_models,
                     slow_signed_prices)
from slow import slow_span

BOOK = Book(["a", "b", "c"], [[1, 0, 1], [0, 1, 1]])
FREE = (None, None)


class ShowsNone(Case):
    def test_each_condition(self):
        model = Model(BOOK, [(0, 2), (0, 1), (5, 6)])
        self.assertIs(shows_none(model, [1, 1, -1]), True)
        # A multiple need not be a turning; the sign counts.
        self.assertIs(shows_none(model, [(1, 2), (1, 2), (-1, 2)]), True)
        self.assertIs(shows_none(model, (3, 3, -3)), True)
        self.assertIs(shows_none(model, [-1, -1, 1]), False)
        # No price row, although the greatest worth is below 0.
        self.assertIs(shows_none(model, [0, 0, -1]), False)
        self.assertIs(shows_none(model, [1, 1, -2]), False)
        # A greatest worth of 0, or none.
        self.assertIs(shows_none(model, [0, 0, 0]), False)
        self.assertIs(shows_none(Model(BOOK, [(0, 2), (0, 1), (3, 6)]), [1, 1, -1]), False)
        self.assertIs(shows_none(Model(BOOK, [(0, None), (0, 1), (5, 6)]), [1, 1, -1]), False)
        self.assertIs(shows_none(Model(BOOK, [(None, 2), (None, 1), (5, None)]), [1, 1, -1]), True)

    def test_sums_of_price_turnings(self):
        model = Model(Book(names(2), []), [(1, 2), (-2, -1)])
        for row, expected in (([-1, 1], True), ([-1, 0], True), ([-3, (1, 2)], True), ([1, 1], False), ([-1, -1], False)):
            self.assertIs(shows_none(model, row), expected)

    def test_many_models(self):
        rng = random.Random(61)
        for model in sample_models(5, 60, seed=61):
            row = barring(model)
            if row is not None:
                self.assertIs(shows_none(model, row), True)
                self.assertIs(shows_none(model, [-x for x in row]), False)
            else:
                self.assertIs(shows_none(model, [random_number(rng) for _ in model.box]), False)

    def test_wide_books(self):
        model = Model(Book(names(16), [[1] * 16]), [(0, 1)] * 15 + [(2, 3)])
        self.assertIs(shows_none(model, [0] * 14 + [1, -1]), True)

    def test_bad_size(self):
        model = Model(BOOK, [FREE] * 3)
        for row in ([], [0, 0], [0] * 4):
            self.raises(BadSize, shows_none, model, row)


class ShowsBest(Case):
    MODEL = Model(BOOK, [(0, 2), (0, None), (1, (5, 2))], prices=[1, (1, 2), 0])

    def test_the_example_of_solve(self):
        self.assertIs(shows_best(self.MODEL, [0, 1, 1], [(1, 2), 0, (1, 2)]), True)
        self.assertIs(shows_best(self.MODEL, (0, 1, 1), ((1, 2), 0, (1, 2))), True)

    def test_each_condition(self):
        # The numbers are no table, or out of a range.
        plain = Model(BOOK, [(0, 2)] * 3)
        for numbers, expected in (([1, 1, 2], True), ([1, 1, 1], False), ([2, 1, 3], False), ([-1, 1, 0], False)):
            self.assertIs(shows_best(plain, numbers, [0, 0, 0]), expected)
        self.assertIs(shows_best(self.MODEL, [0, 1, 2], [(1, 2), 0, (1, 2)]), False)
        self.assertIs(shows_best(self.MODEL, [0, (1, 2), (1, 2)], [(1, 2), 0, (1, 2)]), False)
        # The prices minus the reduced prices are no price row.
        self.assertIs(shows_best(self.MODEL, [0, 1, 1], [(1, 2), 0, 0]), False)
        self.assertIs(shows_best(self.MODEL, [0, 1, 1], [0, 0, 0]), False)
        # A reduced price above 0 where the number is above the low end.
        self.assertIs(shows_best(self.MODEL, [0, 2, 2], [(1, 2), 0, (1, 2)]), False)
        self.assertIs(shows_best(self.MODEL, [1, 0, 1], [(1, 2), 0, (1, 2)]), False)
        self.assertIs(shows_best(self.MODEL, [0, 1, 1], [1, (1, 2), 0]), False)

    def test_reduced_prices_below_0(self):
        model = Model(BOOK, [(0, 2), (0, 3), (1, 4)], prices=[-1, -1, 0])
        self.assertIs(shows_best(model, [2, 2, 4], [0, 0, -1]), True)
        self.assertIs(shows_best(model, [1, 3, 4], [0, 0, -1]), True)
        self.assertIs(shows_best(model, [1, 2, 3], [0, 0, -1]), False)
        self.assertIs(shows_best(model, [2, 2, 4], [-1, -1, 0]), False)
        # An end that is None equals no number.
        model = Model(BOOK, [(0, None), (0, None), FREE], prices=[-1, 0, 0])
        self.assertIs(shows_best(model, [0, 0, 0], [-1, 0, 0]), False)
        model = Model(BOOK, [(None, 0), (None, 0), FREE], prices=[1, 0, 0])
        self.assertIs(shows_best(model, [0, 0, 0], [1, 0, 0]), False)

    def test_fixed_cells_may_have_both_signs(self):
        model = Model(Book.free(["a"]), [(2, 2)])
        for price in (-3, 0, (1, 2)):
            self.assertIs(shows_best(Model(model.book, model.box, prices=[price]), [2], [price]), True)

    def test_what_it_shows_is_true(self):
        rng = random.Random(62)
        for book in [model.book for model in sample_models(4, 60, seed=62)] * 4:
            table = random_table(rng, book)
            reduced = [random_number(rng, most=2) for _ in range(book.size)]
            box = [(x, None) if fraction(y) > 0 else (None, x) if fraction(y) < 0 else FREE for x, y in zip(table, reduced)]
            row = rng.choice(slow_signed_prices(book) + [[0] * book.size])
            prices = [number_of(fraction(x) + y) for x, y in zip(reduced, row)]
            self.assertIs(shows_best(Model(book, box, prices=prices), table, reduced), True)
            price = sum(x * y for x, y in zip(fractions(table), fractions(prices)))
            self.assertEqual(slow_span(book, box, prices)[0], price)

    def test_bad_size(self):
        for numbers, reduced in (([], [0, 0, 0]), ([0, 1, 1], [0, 0]), ([0] * 4, [0] * 3), ([5], [5]), ([7, 7, 7], [0, 0]),
                                 ([0, 1, 1], [(1, 2), 0, (1, 2), 0]), ([7, 7, 7], [0] * 4), ([7, 7], [0] * 3)):
            self.raises(BadSize, shows_best, self.MODEL, numbers, reduced)


class ShowsUnbounded(Case):
    MODEL = Model(BOOK, [(0, None), (None, 3), FREE], prices=[-1, 0, 0])

    def test_each_condition(self):
        self.assertIs(shows_unbounded(self.MODEL, [1, 2, 3], [1, 0, 1]), True)
        self.assertIs(shows_unbounded(self.MODEL, [1, 2, 3], [1, -1, 0]), True)
        self.assertIs(shows_unbounded(self.MODEL, (1, 2, 3), ((1, 2), (-1, 2), 0)), True)
        # No table, or no answer.
        self.assertIs(shows_unbounded(self.MODEL, [1, 2, 4], [1, 0, 1]), False)
        self.assertIs(shows_unbounded(self.MODEL, [1, 4, 5], [1, 0, 1]), False)
        self.assertIs(shows_unbounded(self.MODEL, [-1, 2, 1], [1, 0, 1]), False)
        # The turning is no table.
        self.assertIs(shows_unbounded(self.MODEL, [1, 2, 3], [1, 0, 2]), False)
        self.assertIs(shows_unbounded(self.MODEL, [1, 2, 3], [1, 0, 0]), False)
        # Its price is not below 0.
        self.assertIs(shows_unbounded(self.MODEL, [1, 2, 3], [0, -1, -1]), False)
        self.assertIs(shows_unbounded(self.MODEL, [1, 2, 3], [0, 0, 0]), False)
        self.assertIs(shows_unbounded(self.MODEL, [1, 2, 3], [-1, 0, -1]), False)
        # It meets an end.
        self.assertIs(shows_unbounded(self.MODEL, [1, 2, 3], [1, 1, 2]), False)
        model = Model(BOOK, [(0, None), (None, 3), (0, 10)], prices=[-1, 0, 0])
        self.assertIs(shows_unbounded(model, [1, 2, 3], [1, 0, 1]), False)
        self.assertIs(shows_unbounded(model, [1, 2, 3], [1, -1, 0]), True)
        model = Model(BOOK, [(0, None), (0, 3), FREE], prices=[-1, 0, 0])
        self.assertIs(shows_unbounded(model, [1, 2, 3], [1, -1, 0]), False)

    def test_many_models(self):
        rng = random.Random(63)
        counts = {True: 0, False: 0}
        for book in [model.book for model in sample_models(4, 60, seed=63)] * 4:
            table, ray = random_table(rng, book), random_table(rng, book)
            prices = [random_number(rng) for _ in range(book.size)]
            box = [rng.choice([FREE, (x, None) if fraction(y) >= 0 else (None, x), (x, None)]) for x, y in zip(table, ray)]
            price = sum(x * y for x, y in zip(fractions(prices), fractions(ray)))
            ends = [(high if fraction(x) > 0 else low) for x, (low, high) in zip(ray, box) if x != 0]
            expected = price < 0 and all(end is None for end in ends)
            self.assertIs(shows_unbounded(Model(book, box, prices=prices), table, ray), expected)
            if expected:
                self.assertIsNone(slow_span(book, box, prices)[0])
            counts[expected] += 1
        self.assertGreater(min(counts.values()), 20)

    def test_bad_size(self):
        for numbers, turning in (([], [1, 0, 1]), ([1, 2, 3], [1, 0]), ([1, 2, 4], []), ([0] * 4, [0] * 4), ([1, 2, 4], [0] * 4)):
            self.raises(BadSize, shows_unbounded, self.MODEL, numbers, turning)


if __name__ == "__main__":
    unittest.main()
