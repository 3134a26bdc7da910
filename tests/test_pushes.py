"""Points 103, 105 and 109: pushes."""

import unittest

from fineststep.ahead import left_after, step_holds
from fineststep.best import best_price, how_far
from fineststep.books import Book
from fineststep.errors import BadAhead, NoAnswer, NoLeast, TooWide
from fineststep.models import Model, is_answer, is_whole_answer, price_of, same_model, with_mark, with_price, with_range
from fineststep.pushes import first_push
from fineststep.rows import added, negative, scaled
from fineststep.running import solve
from helpers import Case, fraction, names, signed, slow_turnings
from reducing import loose_models, slow_push_holds, slow_steps

FREE = (None, None)
BOOK = Book(["a", "b", "c"], [[1, 0, 1], [0, 1, 1]])
# The turnings are [1, 0, 1], [1, -1, 0] and [0, 1, 1]: a goes down with c, or while b goes up.
MODEL = Model(BOOK, [(0, 2), (0, None), FREE], prices=[1, 1, 0])
DOWN = ("push", 0, "low", [1, 0, 1])


class FirstPush(Case):
    def test_the_first_turning_signed_above_0_at_the_cell(self):
        self.assertEqual(first_push(MODEL), ("push", 0, "low", [1, -1, 0]))
        self.assertEqual(first_push(with_price(MODEL, 1, 2)), DOWN)
        # b is pushed along the negative of the first turning through it: its price is 0, as a goes up freely.
        self.assertEqual(first_push(Model(BOOK, [FREE, (0, 2), FREE])), ("push", 1, "low", [-1, 1, 0]))

    def test_low_before_high_and_the_least_cell_first(self):
        model = Model(BOOK, [FREE, FREE, (0, 2)])
        self.assertEqual(first_push(model), ("push", 2, "low", [1, 0, 1]))
        self.assertEqual(first_push(with_price(model, 2, -1)), ("push", 2, "high", [1, 0, 1]))
        self.assertEqual(first_push(Model(BOOK, [FREE, FREE, (None, 2)])), ("push", 2, "high", [1, 0, 1]))
        self.assertIsNone(first_push(Model(BOOK, [FREE, FREE, (1, 1)])))
        self.assertIsNone(first_push(Model(Book(names(2), []), [(0, 1), (0, None)])))

    def test_many_models(self):
        found = 0
        for model in loose_models(221, 120):
            expected = (slow_steps(model, "push") + [None])[0]
            self.assertEqual(first_push(model), expected)
            found += expected is not None
        self.assertGreater(found, 30)

    def test_too_wide(self):
        self.raises_wide(10, TooWide, first_push, Model(Book.free(names(10)), [FREE] * 10))


class Conditions(Case):
    def test_what_may_be_done(self):
        self.assertIs(step_holds(MODEL, DOWN), True)
        self.assertIs(step_holds(MODEL, ("push", 0, "low", [-1, 0, -1])), True)
        self.assertIs(step_holds(with_price(MODEL, 0, 0), DOWN), True)
        self.assertIs(step_holds(with_price(MODEL, 0, 0), ("push", 0, "high", [1, 0, 1])), True)

    def test_the_turning(self):
        for row in ([1, 1, 2], [2, 0, 2], [0, 0, 0], [1, 0, 0], [0, 1, 1], [(1, 2), 0, (1, 2)]):
            self.assertIs(step_holds(MODEL, ("push", 0, "low", row)), False, row)

    def test_the_cell_and_its_end(self):
        self.assertIs(step_holds(with_range(MODEL, 0, 2, 2), DOWN), False)
        self.assertIs(step_holds(with_range(MODEL, 0, None, 2), DOWN), False)
        high = ("push", 0, "high", [1, 0, 1])
        cheap = with_price(MODEL, 0, -1)
        self.assertIs(step_holds(cheap, high), True)
        self.assertIs(step_holds(with_range(cheap, 0, 0, None), high), False)
        self.assertIs(step_holds(with_range(cheap, 0, 2, 2), high), False)

    def test_the_price(self):
        self.assertIs(step_holds(with_price(MODEL, 2, (-3, 2)), DOWN), False)
        self.assertIs(step_holds(with_price(MODEL, 2, -1), DOWN), True)
        high = ("push", 0, "high", [-1, 0, -1])
        self.assertIs(step_holds(with_price(MODEL, 0, 0), high), True)
        self.assertIs(step_holds(with_price(MODEL, 0, (1, 9)), high), False)

    def test_the_ends_of_other_cells(self):
        # c goes down with a, and b goes up.
        self.assertIs(step_holds(with_range(MODEL, 2, 0, None), DOWN), False)
        self.assertIs(step_holds(with_range(MODEL, 2, None, 0), DOWN), True)
        up = ("push", 0, "low", [1, -1, 0])
        self.assertIs(step_holds(MODEL, up), True)
        self.assertIs(step_holds(with_range(MODEL, 1, 0, 9), up), False)
        # The other way round for the high end.
        free = Model(BOOK, [(0, 2), FREE, FREE])
        for row, cell, bad, good in (([1, 0, 1], 2, (None, 0), (0, None)), ([1, -1, 0], 1, (0, None), (None, 0))):
            high = ("push", 0, "high", row)
            self.assertIs(step_holds(free, high), True)
            self.assertIs(step_holds(with_range(free, cell, *bad), high), False)
            self.assertIs(step_holds(with_range(free, cell, *good), high), True)

    def test_marks(self):
        # A mark outside the support does not matter; one at another cell asks for one at the cell of the push.
        self.assertIs(step_holds(with_mark(MODEL, 1, True), DOWN), True)
        self.assertIs(step_holds(with_mark(MODEL, 2, True), DOWN), False)
        self.assertIs(step_holds(with_mark(MODEL, 0, True), DOWN), True)
        self.assertIs(step_holds(with_mark(with_mark(MODEL, 0, True), 2, True), DOWN), True)
        # With a mark the turning must be 1 at the cell.
        model = Model(Book(["a", "b"], [[2, 3]]), [(0, 4), FREE])
        step = ("push", 0, "low", [2, 3])
        self.assertIs(step_holds(model, step), True)
        self.assertIs(step_holds(with_mark(model, 0, True), step), False)
        one = Model(Book(["a", "b"], [[1, 3]]), [(0, 4), FREE], marks=[0, 1])
        self.assertIs(step_holds(one, ("push", 0, "low", [1, 3])), True)
        self.assertIs(step_holds(one, ("push", 0, "high", [-1, -3])), True)
        self.assertIs(step_holds(with_mark(one, 0, False), ("push", 0, "low", [1, 3])), False)

    def test_both_ends_become_the_end(self):
        self.assertTrue(same_model(left_after(MODEL, DOWN), with_range(MODEL, 0, 0, 0)))
        free = Model(BOOK, [(0, 2), FREE, FREE], marks=[0])
        self.assertTrue(same_model(left_after(free, ("push", 0, "high", [-1, 0, -1])), with_range(free, 0, 2, 2)))
        half = Model(BOOK, [((1, 2), None), FREE, FREE])
        self.assertEqual(left_after(half, DOWN).box[0], ((1, 2), (1, 2)))
        self.raises(BadAhead, left_after, with_price(MODEL, 2, -2), DOWN)

    def test_wide_books(self):
        model = Model(Book(names(16), [[1] * 16]), [(0, 5)] + [FREE] * 15)
        self.assertIs(step_holds(model, ("push", 0, "high", [1] * 16)), True)
        self.assertEqual(left_after(model, ("push", 0, "low", [1] * 16)).box[0], (0, 0))

    def test_each_answer_leads_to_one_of_the_model_left(self):
        done = 0
        for model in loose_models(222, 150, most=5):
            for _, cell, side, row in slow_steps(model, "push")[:3]:
                left = left_after(model, ("push", cell, side, row))
                try:
                    self.assertEqual(best_price(model), best_price(left))
                except (NoAnswer, NoLeast) as error:
                    self.raises(type(error), best_price, left)
                table = list(solve(model).table)
                if is_answer(model, table):
                    way = row if side == "high" else negative(row)
                    there = added(table, scaled(way, how_far(model, table, way)))
                    self.assertIs(is_answer(left, there), True)
                    self.assertLessEqual(fraction(price_of(model, there)), fraction(price_of(model, table)))
                    if is_whole_answer(model, table):
                        self.assertIs(is_whole_answer(left, there), True)
                    done += 1
        self.assertGreater(done, 20)

    def test_all_signed_turnings_of_many_models(self):
        held = 0
        for model in loose_models(223, 80, most=5):
            for row in signed(slow_turnings(model.book)):
                for cell in range(model.book.size):
                    for side in ("low", "high"):
                        expected = slow_push_holds(model, cell, side, row)
                        self.assertIs(step_holds(model, ("push", cell, side, row)), expected)
                        held += expected
        self.assertGreater(held, 40)


if __name__ == "__main__":
    unittest.main()
