"""Points 103, 104 and 109: drops."""

import unittest

from fineststep.ahead import left_after, step_holds
from fineststep.books import Book, other_side
from fineststep.drops import first_drop
from fineststep.errors import BadAhead, TooWide
from fineststep.models import Model, same_model, with_mark, with_range
from helpers import Case, names, signed, slow_turnings
from reducing import loose_models, slow_drop_holds, slow_steps
from slow import slow_cell

FREE = (None, None)
BOOK = Book(["a", "b", "c"], [[1, 0, 1], [0, 1, 1]])
MODEL = Model(BOOK, [(0, 2), (0, 5), (0, 6)])
ROW = [1, 1, -1]


class FirstDrop(Case):
    def test_the_example(self):
        self.assertEqual(first_drop(MODEL), ("drop", 2, "low", [1, 1, -1]))

    def test_low_before_high_and_the_least_cell_first(self):
        self.assertEqual(first_drop(Model(BOOK, [(0, 2), (0, 5), (0, 7)])), ("drop", 2, "low", ROW))
        self.assertEqual(first_drop(Model(BOOK, [(0, 2), (0, 5), (1, 7)])), ("drop", 2, "high", ROW))
        # a is from -8 to 11, b from -8 to 9.
        self.assertEqual(first_drop(Model(BOOK, [(-7, 9), (-9, 9), (1, 2)])), ("drop", 1, "low", ROW))
        self.assertEqual(first_drop(Model(BOOK, [(-7, 11), (-9, 9), (1, 2)])), ("drop", 0, "high", ROW))
        self.assertIsNone(first_drop(Model(BOOK, [(0, 2), (0, 5), (1, 6)])))

    def test_the_first_of_several_price_turnings(self):
        book = Book(["a", "b", "c"], [[1, 1, 1]])
        # The price turnings are [1, -1, 0], [1, 0, -1] and [0, 1, -1].
        self.assertEqual(first_drop(Model(book, [(0, 9), (1, 2), (3, 4)])), ("drop", 0, "low", [1, -1, 0]))
        self.assertEqual(first_drop(Model(book, [(2, 9), (1, 2), (3, 4)])), ("drop", 0, "low", [1, 0, -1]))
        self.assertEqual(first_drop(Model(book, [FREE, (1, 3), (3, 4)])), ("drop", 1, "low", [0, 1, -1]))

    def test_many_models(self):
        found = 0
        for model in loose_models(211, 120):
            expected = (slow_steps(model, "drop") + [None])[0]
            self.assertEqual(first_drop(model), expected)
            found += expected is not None
        self.assertGreater(found, 15)

    def test_too_wide(self):
        self.raises_wide(10, TooWide, first_drop, Model(Book.free(names(10)), [FREE] * 10))


class Conditions(Case):
    def test_what_may_be_done(self):
        for row in (ROW, [-1, -1, 1]):
            self.assertIs(step_holds(MODEL, ("drop", 2, "low", row)), True)
        wide = with_range(MODEL, 2, 0, 7)
        self.assertIs(step_holds(wide, ("drop", 2, "high", ROW)), True)
        # Just at the end of what the other cells allow, and just beyond it.
        self.assertIs(step_holds(with_range(MODEL, 2, 0, (20, 3)), ("drop", 2, "high", ROW)), False)
        self.assertIs(step_holds(with_range(MODEL, 2, (1, 9), 7), ("drop", 2, "low", ROW)), False)
        self.assertIs(step_holds(with_range(MODEL, 2, (-1, 9), 7), ("drop", 2, "low", ROW)), True)

    def test_what_may_not_be_done_for_one_reason_alone(self):
        step = ("drop", 2, "low", ROW)
        # The row: no price row, no turning of the other side, a multiple of one, 0 at the cell.
        for row in ([1, 1, 1], [2, 2, -2], [0, 0, 0], [(1, 2), (1, 2), (-1, 2)]):
            self.assertIs(step_holds(MODEL, ("drop", 2, "low", row)), False)
        free = Model(Book(names(3), [[1, 0, 0]]), [(0, 1)] * 3)
        self.assertIs(step_holds(free, ("drop", 1, "high", [0, 1, 0])), True)
        self.assertIs(step_holds(free, ("drop", 1, "high", [0, 1, 1])), False)
        self.assertIs(step_holds(free, ("drop", 1, "high", [0, 0, 1])), False)
        # The cell: marked, fixed, without the end.
        self.assertIs(step_holds(with_mark(MODEL, 2, True), step), False)
        self.assertIs(step_holds(with_mark(MODEL, 1, True), step), True)
        self.assertIs(step_holds(with_range(MODEL, 2, 0, 0), step), False)
        self.assertIs(step_holds(with_range(MODEL, 2, None, 6), step), False)
        # Another cell: without the end that counts, or with one that is too low.
        self.assertIs(step_holds(with_range(MODEL, 0, None, 2), step), False)
        self.assertIs(step_holds(with_range(MODEL, 0, 0, None), step), True)
        self.assertIs(step_holds(with_range(MODEL, 0, -1, 2), step), False)
        high = ("drop", 2, "high", ROW)
        wide = with_range(MODEL, 2, 0, 7)
        self.assertIs(step_holds(with_range(wide, 0, 0, None), high), False)
        self.assertIs(step_holds(with_range(wide, 0, None, 2), high), True)
        self.assertIs(step_holds(with_range(wide, 0, 0, 3), high), False)
        self.assertIs(step_holds(with_range(wide, 2, 0, None), high), False)

    def test_a_single_cell_that_is_always_0(self):
        model = Model(Book(["a"], []), [(0, 1)])
        self.assertEqual(first_drop(model), ("drop", 0, "low", [1]))
        self.assertEqual(first_drop(Model(Book(["a"], []), [(1, 2)])), ("drop", 0, "high", [1]))

    def test_the_end_becomes_none(self):
        self.assertTrue(same_model(left_after(MODEL, ("drop", 2, "low", ROW)), with_range(MODEL, 2, None, 6)))
        wide = with_range(MODEL, 2, 0, 7)
        self.assertTrue(same_model(left_after(wide, ("drop", 2, "high", [-1, -1, 1])), with_range(wide, 2, 0, None)))
        self.raises(BadAhead, left_after, MODEL, ("drop", 2, "high", ROW))

    def test_wide_books(self):
        model = Model(Book(names(16), [[1] * 16]), [(0, 1)] * 15 + [(-1, 5)])
        row = [0] * 14 + [1, -1]
        self.assertIs(step_holds(model, ("drop", 15, "low", row)), True)
        self.assertEqual(left_after(model, ("drop", 15, "high", row)).box[15], (-1, None))

    def test_the_answers_stay_the_same(self):
        done = 0
        for model in loose_models(212, 50, most=5):
            for step in slow_steps(model, "drop")[:4]:
                left = left_after(model, step)
                for cell in range(model.book.size):
                    self.assertEqual(slow_cell(left.book, left.box, cell), slow_cell(model.book, model.box, cell))
                done += 1
        self.assertGreater(done, 20)

    def test_all_signed_price_turnings_of_many_models(self):
        held = 0
        for model in loose_models(213, 30, most=5):
            for row in signed(slow_turnings(other_side(model.book))):
                for cell in range(model.book.size):
                    for side in ("low", "high"):
                        expected = slow_drop_holds(model, cell, side, row)
                        self.assertIs(step_holds(model, ("drop", cell, side, row)), expected)
                        held += expected
        self.assertGreater(held, 20)


if __name__ == "__main__":
    unittest.main()
