"""Points 52 and 53: signed price turnings that bar a model."""

import unittest

from fineststep.barring import barring, has_answer
from fineststep.books import Book
from fineststep.errors import TooWide
from fineststep.models import Model
from helpers import Case, names, sample_models, slow_signed_prices, wide_books
from slow import slow_has, slow_worth

BOOK = Book(["a", "b", "c"], [[1, 0, 1], [0, 1, 1]])
FREE = (None, None)


class Barring(Case):
    def test_a_sum_that_is_too_great(self):
        model = Model(BOOK, [(0, 2), (0, 1), (5, 6)])
        self.assertEqual(barring(model), [1, 1, -1])
        self.assertIs(has_answer(model), False)

    def test_a_sum_that_is_too_small(self):
        model = Model(BOOK, [(1, 2), (1, None), (None, (3, 2))])
        self.assertEqual(barring(model), [-1, -1, 1])
        self.assertIs(has_answer(model), False)

    def test_a_greatest_worth_of_0_does_not_bar(self):
        model = Model(BOOK, [(0, 2), (0, 1), (3, 6)])
        self.assertIsNone(barring(model))
        self.assertIs(has_answer(model), True)

    def test_ends_that_are_not_there(self):
        for box in ([FREE] * 3, [(0, None), (0, 1), (5, 6)], [(0, 2), (0, None), (5, 6)], [(0, 2), (0, 1), FREE]):
            self.assertIsNone(barring(Model(BOOK, box)))

    def test_cells_that_are_0_in_all_tables(self):
        book = Book(["a", "b"], [[0, 1]])
        self.assertEqual(barring(Model(book, [(1, 2), FREE])), [-1, 0])
        self.assertEqual(barring(Model(book, [(-2, -1), FREE])), [1, 0])
        self.assertIsNone(barring(Model(book, [(-1, 1), FREE])))
        self.assertEqual(barring(Model(Book(["a"], []), [((1, 2), None)])), [-1])

    def test_the_first_in_order(self):
        book = Book(names(3), [])
        self.assertEqual(barring(Model(book, [(0, 1), (1, 2), (-2, -1)])), [0, -1, 0])
        self.assertEqual(barring(Model(book, [(-1, 0), (-2, -1), (1, 1)])), [0, 1, 0])
        self.assertIsNone(barring(Model(Book.free(names(3)), [(0, 0), (1, 2), (3, None)])))

    def test_all_signed_price_turnings(self):
        found = 0
        for model in sample_models(7, 90, entries=4):
            bars = [row for row in slow_signed_prices(model.book)
                    if slow_worth(row, model.box) is not None and slow_worth(row, model.box) < 0]
            self.assertEqual(barring(model), bars[0] if bars else None)
            self.assertIs(has_answer(model), not bars)
            self.assertIs(has_answer(model), slow_has(model.book, model.box))
            found += bool(bars)
        self.assertGreater(found, 30)

    def test_too_wide(self):
        for book in wide_books():
            model = Model(book, [(1, 2)] * book.size)
            self.raises_wide(book.size, TooWide, barring, model)
            self.raises_wide(book.size, TooWide, has_answer, model)


if __name__ == "__main__":
    unittest.main()
