"""Point 57: the ranges of cells over all answers."""

import unittest

from fineststep.barring import barring
from fineststep.books import Book
from fineststep.errors import NoAnswer, NoCell, TooWide
from fineststep.models import Model
from fineststep.ranges import cell_range, ranges
from helpers import Case, names, sample_models, wide_books
from slow import shown_span, slow_cell, slow_has

BOOK = Book(["a", "b", "c"], [[1, 0, 1], [0, 1, 1]])
FREE = (None, None)


class Ranges(Case):
    def test_no_ends(self):
        self.assertEqual(ranges(Model(BOOK, [FREE] * 3)), [FREE] * 3)
        self.assertEqual(ranges(Model(Book.free(["a"]), [FREE])), [FREE])

    def test_one_end(self):
        self.assertEqual(ranges(Model(BOOK, [(0, None), (1, None), FREE])), [(0, None), (1, None), (1, None)])
        self.assertEqual(ranges(Model(BOOK, [(None, 0), (1, None), FREE])), [(None, 0), (1, None), FREE])
        self.assertEqual(ranges(Model(BOOK, [(0, None), (0, None), (None, (5, 2))])), [(0, (5, 2))] * 3)

    def test_ends_that_others_give(self):
        self.assertEqual(ranges(Model(BOOK, [(0, 2), (0, 1), (2, 6)])), [(1, 2), (0, 1), (2, 3)])
        self.assertEqual(ranges(Model(BOOK, [FREE, (0, (1, 3)), (1, (3, 2))])), [((2, 3), (3, 2)), (0, (1, 3)), (1, (3, 2))])

    def test_one_number(self):
        self.assertEqual(ranges(Model(BOOK, [(0, 2), (0, 1), (3, 6)])), [(2, 2), (1, 1), (3, 3)])
        self.assertEqual(ranges(Model(BOOK, [(0, 0), FREE, FREE])), [(0, 0), FREE, FREE])

    def test_cells_outside_all_entries(self):
        book = Book(["a", "b", "c"], [[0, 1, 0]])
        self.assertEqual(ranges(Model(book, [FREE, FREE, (-1, 5)])), [(0, 0), FREE, (0, 0)])
        self.assertEqual(cell_range(Model(Book(["a"], []), [FREE]), 0), (0, 0))

    def test_many_models(self):
        answers = 0
        for model in sample_models(7, 100, seed=51, entries=4):
            if slow_has(model.book, model.box):
                found = ranges(model)
                self.assertEqual(found, [shown_span(slow_cell(model.book, model.box, cell)) for cell in range(model.book.size)])
                self.assertEqual(found, [cell_range(model, cell) for cell in range(model.book.size)])
                self.assertTrue(all(type(ends) is tuple for ends in found))
                answers += 1
        self.assertGreater(answers, 60)

    def test_books_of_nine_cells(self):
        book = Book(names(9), [[1, 0, 0, 1, 1, 0, 1, 2, 0], [0, 1, 0, 1, 0, 1, -1, 0, 1], [0, 0, 1, 0, 1, 1, 0, 1, -3]])
        model = Model(book, [(0, 3), (0, 3), (0, 3), (1, 4), (2, (9, 2)), (1, 2), FREE, (None, 7), (-4, None)])
        self.assertEqual(ranges(model), [shown_span(slow_cell(book, model.box, cell)) for cell in range(9)])


class Errors(Case):
    def test_no_answer(self):
        model = Model(BOOK, [(0, 2), (0, 1), (5, 6)])
        for function, args in ((ranges, ()), (cell_range, (0,)), (cell_range, (2,))):
            error = self.raises(NoAnswer, function, model, *args)
            self.assertEqual(error.row, [1, 1, -1])
            self.assertIs(type(error.row), list)
        for model in sample_models(6, 60, seed=52):
            row = barring(model)
            if row is not None:
                self.assertEqual(self.raises(NoAnswer, ranges, model).row, row)
                self.assertEqual(self.raises(NoAnswer, cell_range, model, 0).row, row)

    def test_no_cell_comes_before_no_answer(self):
        model = Model(BOOK, [(0, 2), (0, 1), (5, 6)])
        for cell in (-1, 3, 100):
            self.raises_cell(NoCell, cell, cell_range, model, cell)

    def test_too_wide(self):
        for book in wide_books():
            model = Model(book, [(1, 2)] * book.size)
            self.raises_wide(book.size, TooWide, ranges, model)
            self.raises_wide(book.size, TooWide, cell_range, model, -1)


if __name__ == "__main__":
    unittest.main()
