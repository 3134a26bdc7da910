"""Points 83 and 84: sheets and their worths."""

import random
import unittest

from fineststep.books import Book
from fineststep.errors import BadSize, EmptyRange, TooWide
from fineststep.models import Model
from fineststep.sheets import greatest_sheet, sheet_worth, sheets
from helpers import (Case, engine_models, fraction, fractions, names, number_of, numbers_of, random_number, random_range,
                     sample_books, sample_models, slow_bases, wide_books)
from slow import slow_span, slow_unit

BOOK = Book(["a", "b", "c"], [[1, 0, 1], [0, 1, 1]])
FREE = (None, None)


def slow_sheets(book, prices):
    """Returns the sheets as lists of Fractions, in order."""
    found = set()
    for basis in slow_bases(book):
        sheet = [fraction(0)] * book.size
        for cell in basis:
            sheet[cell] = sum((x * y for x, y in zip(slow_unit(book, basis, cell), fractions(prices))), fraction(0))
        found.add(tuple(sheet))
    return [list(sheet) for sheet in sorted(found)]


class Sheets(Case):
    def test_each_basis(self):
        self.assertEqual(sheets(BOOK, [1, (1, 2), 0]), [[0, (-1, 2), 1], [(1, 2), 0, (1, 2)], [1, (1, 2), 0]])
        self.assertEqual(sheets(BOOK, (1, 3, 0)), [[-2, 0, 3], [0, 2, 1], [1, 3, 0]])

    def test_sheets_that_several_bases_share(self):
        self.assertEqual(sheets(BOOK, [0, 0, 0]), [[0, 0, 0]])
        self.assertEqual(sheets(BOOK, [0, 0, 1]), [[0, 0, 1], [1, 1, 0]])
        self.assertEqual(sheets(BOOK, [1, 1, 0]), [[0, 0, 1], [1, 1, 0]])

    def test_books_of_one_cell_and_without_tables(self):
        self.assertEqual(sheets(Book.free(["a"]), [(-1, 2)]), [[(-1, 2)]])
        self.assertEqual(sheets(Book(["a"], []), [5]), [[0]])
        self.assertEqual(sheets(Book(names(4), []), [1, 2, 3, 4]), [[0, 0, 0, 0]])
        self.assertEqual(sheets(Book.free(names(3)), [3, (1, 2), -1]), [[3, (1, 2), -1]])

    def test_the_order_of_fractions(self):
        book = Book(["a", "b"], [[2, 3]])
        self.assertEqual(sheets(book, [1, 1]), [[0, (5, 3)], [(5, 2), 0]])
        self.assertEqual(sheets(book, [-1, -1]), [[(-5, 2), 0], [0, (-5, 3)]])

    def test_many_books(self):
        rng = random.Random(111)
        for book in sample_books(7, 50, seed=111):
            prices = [random_number(rng) for _ in range(book.size)]
            found = sheets(book, prices)
            self.assertEqual(found, [numbers_of(sheet) for sheet in slow_sheets(book, prices)])
            for sheet in found:
                self.assert_numbers(sheet)

    def test_errors(self):
        for prices in ([], [1, 2], [1, 2, 3, 4]):
            self.raises(BadSize, sheets, BOOK, prices)
        for book in wide_books():
            self.raises_wide(book.size, TooWide, sheets, book, [])
            self.raises_wide(book.size, TooWide, greatest_sheet, Model(book, [(1, 2)] * book.size))


class Worths(Case):
    def test_the_ends_that_are_used(self):
        box = [(1, 2), ((1, 2), 5), (None, 3)]
        self.assertEqual(sheet_worth([1, 1, 0], box), (3, 2))
        self.assertEqual(sheet_worth([-1, 2, -1], box), -4)
        self.assertEqual(sheet_worth([0, 0, 0], box), 0)
        self.assertEqual(sheet_worth([], []), 0)
        self.assertEqual(sheet_worth(((1, 2), 0, 0), box), (1, 2))

    def test_an_end_that_is_not_there(self):
        self.assertIsNone(sheet_worth([0, 0, 1], [(1, 2), (1, 2), (None, 3)]))
        self.assertIsNone(sheet_worth([1, -1, 0], [(1, 2), (1, None), (None, 3)]))
        self.assertEqual(sheet_worth([0, 0, -2], [FREE, FREE, (None, 3)]), -6)

    def test_random_boxes(self):
        rng = random.Random(112)
        for _ in range(300):
            box = [random_range(rng) for _ in range(rng.randint(1, 4))]
            sheet = [random_number(rng) for _ in box]
            used = [(x, ends[0] if x > 0 else ends[1]) for x, ends in zip(fractions(sheet), box) if x != 0]
            expected = None
            if all(end is not None for _, end in used):
                expected = number_of(sum(x * fraction(end) for x, end in used))
            self.assertEqual(sheet_worth(sheet, box), expected)

    def test_errors(self):
        self.raises(BadSize, sheet_worth, [1], [FREE, (1, 0)])
        self.raises(BadSize, sheet_worth, [1, 2, 3], [FREE])
        self.raises_cell(EmptyRange, 1, sheet_worth, [0, 0, 0], [FREE, (1, (1, 2)), (1, 0)])


class Greatest(Case):
    def test_the_first_among_equals(self):
        model = Model(BOOK, [(0, 2), (0, 2), (0, 2)], prices=[1, 1, 0])
        self.assertEqual(greatest_sheet(model), (0, [0, 0, 1]))
        model = Model(BOOK, [(0, 2), (0, None), (1, (5, 2))], prices=[1, (1, 2), 0])
        self.assertEqual(greatest_sheet(model), ((1, 2), [(1, 2), 0, (1, 2)]))

    def test_no_sheet_has_a_worth(self):
        self.assertIsNone(greatest_sheet(Model(BOOK, [FREE] * 3, prices=[1, 0, 0])))
        self.assertIsNone(greatest_sheet(Model(BOOK, [(0, None), (0, 1), FREE], prices=[-1, 0, 0])))
        self.assertEqual(greatest_sheet(Model(BOOK, [FREE] * 3, prices=[1, 1, -1])), (0, [0, 0, 0]))

    def test_without_an_answer(self):
        self.assertEqual(greatest_sheet(Model(BOOK, [(0, 2), (0, 1), (5, 6)], prices=[1, 0, 0])), (4, [0, -1, 1]))

    def test_the_least_price(self):
        counts = {"none": 0, "price": 0}
        for model in sample_models(6, 90, seed=113) + engine_models(6, 40, seed=113):
            span = slow_span(model.book, model.box, model.prices)
            found = greatest_sheet(model)
            if span is not None:
                self.assertEqual(None if found is None else found[0], None if span[0] is None else number_of(span[0]))
                counts["none" if found is None else "price"] += 1
            if found is not None:
                worths = [(sheet, sheet_worth(sheet, model.box)) for sheet in sheets(model.book, model.prices)]
                same = [sheet for sheet, worth in worths if worth == found[0]]
                self.assertEqual(found[1], same[0])
                self.assertIs(type(found), tuple)
                self.assertTrue(all(worth is None or fraction(worth) <= fraction(found[0]) for _, worth in worths))
        self.assertGreater(min(counts.values()), 15)


if __name__ == "__main__":
    unittest.main()
