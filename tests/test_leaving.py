"""Points 103, 106, 107 and 109: blanks and shuts."""

import unittest

from fineststep.ahead import left_after, step_holds
from fineststep.books import Book
from fineststep.errors import BadAhead
from fineststep.leaving import first_blank, first_shut
from fineststep.models import Model, same_model, with_mark, with_price, with_range
from fineststep.reshaped import bind, blank
from helpers import Case, names
from reducing import loose_models, slow_steps

FREE = (None, None)
BOOK = Book(["a", "b", "c"], [[1, 0, 1], [0, 1, 1]])
MODEL = Model(BOOK, [(0, 2), FREE, (0, 0)], prices=[(1, 2), 0, 3], marks=[0, 2])


class Firsts(Case):
    def test_the_least_cell(self):
        model = Model(BOOK, [FREE, FREE, FREE], prices=[1, 0, 0])
        self.assertEqual((first_blank(model), first_shut(model)), (("blank", 1), None))
        model = Model(BOOK, [(0, 1), (0, 0), (0, 0)])
        self.assertEqual((first_blank(model), first_shut(model)), (None, ("shut", 1)))
        self.assertEqual((first_blank(MODEL), first_shut(MODEL)), (("blank", 1), ("shut", 2)))

    def test_any_size(self):
        wide = Model(Book.free(names(16)), [(1, 2)] * 14 + [(0, 0), FREE])
        self.assertEqual((first_blank(wide), first_shut(wide)), (("blank", 15), ("shut", 14)))

    def test_many_models(self):
        found = 0
        for model in loose_models(231, 100):
            self.assertEqual(first_blank(model), (slow_steps(model, "blank") + [None])[0])
            self.assertEqual(first_shut(model), (slow_steps(model, "shut") + [None])[0])
            found += first_blank(model) is not None and first_shut(model) is not None
        self.assertGreater(found, 10)


class Blanks(Case):
    def test_each_condition(self):
        step = ("blank", 1)
        self.assertIs(step_holds(MODEL, step), True)
        for low, high in ((0, None), (None, 0), (0, 0)):
            self.assertIs(step_holds(with_range(MODEL, 1, low, high), step), False)
        self.assertIs(step_holds(with_price(MODEL, 1, (1, 9)), step), False)
        self.assertIs(step_holds(with_mark(MODEL, 1, True), step), False)
        for frame in ([], [[1]]):
            only = Model(Book(["a"], frame), [FREE])
            self.assertEqual((step_holds(only, ("blank", 0)), first_blank(only)), (False, None))

    def test_the_model_left(self):
        left = left_after(MODEL, ("blank", 1))
        # c may be any number now.
        self.assertEqual(left.book.frame, ((1, 0), (0, 1)))
        expected = Model(blank(BOOK, [1]), [(0, 2), (0, 0)], prices=[(1, 2), 3], marks=[0, 1])
        self.assertTrue(same_model(left, expected))
        self.raises(BadAhead, left_after, MODEL, ("blank", 0))


class Shuts(Case):
    def test_each_condition(self):
        step = ("shut", 2)
        self.assertIs(step_holds(MODEL, step), True)
        for low, high in ((0, None), (None, 0), (0, 1), (-1, 0), (1, 1), FREE):
            self.assertIs(step_holds(with_range(MODEL, 2, low, high), step), False)
        self.assertIs(step_holds(with_mark(with_price(MODEL, 2, 0), 2, False), step), True)
        for frame in ([], [[1]]):
            only = Model(Book(["a"], frame), [(0, 0)])
            self.assertEqual((step_holds(only, ("shut", 0)), first_shut(only)), (False, None))

    def test_the_model_left(self):
        left = left_after(MODEL, ("shut", 2))
        # b is the negative of a now.
        self.assertEqual(left.book.frame, ((1, -1),))
        self.assertTrue(same_model(left, Model(bind(BOOK, [2]), [(0, 2), FREE], prices=[(1, 2), 0], marks=[0])))
        first = Model(BOOK, [(0, 0), (1, 2), (3, 4)], prices=[5, 6, 7], marks=[0, 2])
        self.assertTrue(same_model(left_after(first, ("shut", 0)),
                                   Model(bind(BOOK, [0]), [(1, 2), (3, 4)], prices=[6, 7], marks=[1])))
        self.raises(BadAhead, left_after, MODEL, ("shut", 0))


if __name__ == "__main__":
    unittest.main()
