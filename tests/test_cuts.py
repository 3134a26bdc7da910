"""Point 101: cuts, that they hold, and the cuts of a stand."""

import random
import unittest

from fineststep.books import Book, pivots
from fineststep.cuts import cut_holds, cut_of, with_cut
from fineststep.errors import BadCut, BadName, BadSize, BadStand, MixedModel, NoCell, NoCut
from fineststep.exact import is_whole
from fineststep.models import Model
from fineststep.reshaped import with_sum
from fineststep.rows import dot
from fineststep.stands import stand_table
from engine import stands_of
from helpers import Case, fraction, fractions, names, numbers_of
from slow import slow_unit, slow_worth
from wholly import slow_sure, slow_whole_answers, whole_models

FREE = (None, None)
HALVES = Book(["a", "b", "c"], [[2, 0, 1], [0, 2, 1]])
# c = a/2 + b/2, all cells marked.
MODEL = Model(HALVES, [(0, 3), (0, 3), (0, 2)], prices=[-1, 0, 0], marks=[0, 1, 2])
# a and b high: the numbers are 3, 3 and 3; a high and b low: 3, 0, 3/2.
CUT = ([-1, -1, 1], [(1, 2), (1, 2), -1], 0)


def slow_cut(model, stand, cell):
    """Returns the cut of the stand for the cell as point 101 says, None if there is none."""
    basis, words = stand
    if cell in basis:
        return None
    row, price_row = [0] * model.book.size, [0] * model.book.size
    row[cell], price_row[cell] = 1, -1
    for at, word in zip(basis, words):
        a = slow_unit(model.book, basis, at)[cell]
        if a.denominator != 1 and word == "zero":
            return None
        b = a.numerator // a.denominator if word == "high" or a.denominator == 1 else -(-a.numerator // a.denominator)
        row[at], price_row[at] = -b, a
    worth = sum(x * y for x, y in zip(row, fractions(stand_table(model, stand))))
    return None if worth.denominator == 1 else (row, numbers_of(price_row), worth.numerator // worth.denominator)


class CutHolds(Case):
    def test_bounds(self):
        # The greatest worth of [-1/2, -1/2, 0] is 0.
        self.assertIs(cut_holds(MODEL, CUT), True)
        self.assertIs(cut_holds(MODEL, CUT[:2] + (1,)), True)
        self.assertIs(cut_holds(MODEL, CUT[:2] + (-1,)), False)

    def test_the_floor_counts(self):
        row, price_row = [0, 0, 1], [(1, 2), (1, 2), -1]
        model = Model(HALVES, [(0, 3), (0, 2), FREE], marks=[0, 1, 2])
        # The greatest worth is 5/2.
        self.assertIs(cut_holds(model, (row, price_row, 2)), True)
        self.assertIs(cut_holds(model, (row, price_row, 1)), False)
        self.assertIs(cut_holds(model, (tuple(row), tuple(price_row), 3)), True)

    def test_rows_that_are_not_whole_or_not_0_at_cells_that_are_not_sure_whole(self):
        zeros = [0, 0, 0]
        self.assertIs(cut_holds(MODEL, ([1, 0, 0], zeros, 3)), True)
        self.assertIs(cut_holds(MODEL, ([(1, 2), 0, 0], zeros, 3)), False)
        some = Model(HALVES, MODEL.box, marks=[0, 1])
        self.assertIs(cut_holds(some, ([1, 1, 0], zeros, 6)), True)
        self.assertIs(cut_holds(some, ([0, 0, 1], zeros, 6)), False)
        self.assertIs(cut_holds(some, CUT), False)
        one = Model(HALVES, MODEL.box, marks=[1])
        self.assertIs(cut_holds(one, ([0, 1, 0], zeros, 3)), True)
        self.assertIs(cut_holds(one, ([1, 0, 0], zeros, 3)), False)

    def test_price_rows_that_are_none(self):
        self.assertIs(cut_holds(MODEL, ([-1, -1, 1], [(1, 2), (1, 2), 0], 0)), False)
        self.assertIs(cut_holds(MODEL, ([0, 0, 0], [1, 1, -2], 6)), True)
        self.assertIs(cut_holds(MODEL, ([0, 0, 0], [1, 1, -1], 6)), False)

    def test_ends_none(self):
        low = Model(HALVES, [(0, None), (0, None), FREE], marks=[0, 1, 2])
        self.assertIs(cut_holds(low, CUT), True)
        self.assertIs(cut_holds(low, ([1, 1, -1], [(-1, 2), (-1, 2), 1], 3)), False)
        self.assertIs(cut_holds(Model(HALVES, [(0, 3), FREE, (0, 2)], marks=[0, 1, 2]), CUT), False)
        self.assertIs(cut_holds(Model(HALVES, [FREE] * 3, marks=[0, 1, 2]), ([0] * 3, [0] * 3, 0)), True)
        self.assertIs(cut_holds(Model(HALVES, [FREE] * 3, marks=[0, 1, 2]), ([0] * 3, [0] * 3, -1)), False)

    def test_bad_size(self):
        for cut in (([0] * 2, [0] * 3, 0), ([0] * 3, [0] * 4, 0), ([], [], 0), ([(1, 2), 0, 0], [0] * 2, 0), ([0] * 3, [], -1)):
            self.raises(BadSize, cut_holds, MODEL, cut)

    def test_a_cut_that_holds_bounds_every_whole_answer(self):
        rng = random.Random(191)
        held = 0
        for model in whole_models(191, 60):
            for _ in range(6):
                row = [rng.randint(-2, 2) if cell in slow_sure(model) else 0 for cell in range(model.book.size)]
                worth = slow_worth(row, model.box)
                zeros = [0] * model.book.size
                if worth is None:
                    self.assertIs(cut_holds(model, (row, zeros, 10 ** 9)), False)
                    continue
                bound = worth.numerator // worth.denominator
                self.assertIs(cut_holds(model, (row, zeros, bound)), True)
                self.assertIs(cut_holds(model, (row, zeros, bound - 1)), False)
                self.assertTrue(all(dot(row, answer) <= bound for answer in slow_whole_answers(model)))
                held += 1
        self.assertGreater(held, 100)


class WithCut(Case):
    def test_the_new_cell(self):
        model = with_cut(MODEL, "d", CUT)
        self.assertEqual(model.book.names, ("a", "b", "c", "d"))
        self.assertEqual(model.book.frame, with_sum(HALVES, "d", CUT[0]).frame)
        self.assertEqual(model.box, MODEL.box + ((None, 0),))
        self.assertEqual((model.prices, model.marks), ((-1, 0, 0, 0), (0, 1, 2, 3)))

    def test_each_error_in_its_order(self):
        wide = Model(Book.free(names(16)), [(0, 1)] * 16, marks=range(16))
        good, bad = ([0] * 16, [0] * 16, 0), ([0] * 16, [0] * 16, -1)
        self.raises(BadSize, with_cut, MODEL, "A", ([0] * 2, [0] * 3, -1))
        self.raises(BadSize, with_cut, MODEL, "A", ([0] * 3, [0] * 2, -1))
        self.raises(BadSize, with_cut, wide, "A", bad)
        self.raises(BadSize, with_cut, wide, "d", good)
        self.raises(BadName, with_cut, MODEL, "A", ([0] * 3, [0] * 3, -1))
        self.raises(BadName, with_cut, MODEL, "c", ([0] * 3, [0] * 3, -1))
        self.raises(BadCut, with_cut, MODEL, "d", ([0] * 3, [0] * 3, -1))
        self.assertEqual(with_cut(MODEL, "d", ([0] * 3, [0] * 3, 5)).box[3], (None, 5))


class CutOf(Case):
    def test_each_word_of_the_basis(self):
        self.assertEqual(cut_of(MODEL, ((0, 1), ("high", "low")), 2), ([0, -1, 1], [(1, 2), (1, 2), -1], 1))
        self.assertEqual(cut_of(MODEL, ((0, 1), ("low", "high")), 2), ([-1, 0, 1], [(1, 2), (1, 2), -1], 1))
        odd = Model(HALVES, [(1, 3), (0, 2), (0, 2)], marks=[0, 1, 2])
        self.assertEqual(cut_of(odd, ((0, 1), ("low", "low")), 2), ([-1, -1, 1], [(1, 2), (1, 2), -1], -1))
        self.assertEqual(cut_of(odd, ((0, 1), ("high", "high")), 2), ([0, 0, 1], [(1, 2), (1, 2), -1], 2))

    def test_no_cut_where_the_dot_is_whole(self):
        self.raises(NoCut, cut_of, MODEL, ((0, 1), ("low", "low")), 2)
        self.raises(NoCut, cut_of, MODEL, ((0, 1), ("high", "high")), 2)
        # The numbers of the basis are -1 and 2, all whole: the cut would be a = -b + 2 c itself.
        self.raises(NoCut, cut_of, MODEL, ((1, 2), ("low", "high")), 0)

    def test_the_word_zero(self):
        model = Model(HALVES, [FREE, (0, 3), (0, 2)], marks=[0, 1, 2])
        # At a the number is 1/2, with the word zero.
        self.raises(NoCut, cut_of, model, ((0, 1), ("zero", "high")), 2)
        book = Book(names(3), [[1, 0, 2], [0, 2, 1]])
        model = Model(book, [FREE, (0, 3), (0, 9)], marks=[0, 1, 2])
        # At cell 0 the number is 2, which is whole.
        self.assertEqual(cut_of(model, ((0, 1), ("zero", "high")), 2), ([-2, 0, 1], [2, (1, 2), -1], 1))

    def test_whole_numbers_below_0_and_fractions_below_0(self):
        book = Book(names(3), [[2, 0, -1], [0, 1, -2]])
        model = Model(book, [(1, 3), (0, 1), FREE], marks=[0, 1, 2])
        self.assertEqual(cut_of(model, ((0, 1), ("low", "low")), 2), ([0, 2, 1], [(-1, 2), -2, -1], -1))
        self.assertEqual(cut_of(model, ((0, 1), ("high", "low")), 2), ([1, 2, 1], [(-1, 2), -2, -1], 1))

    def test_errors_in_their_order(self):
        mixed = Model(HALVES, MODEL.box, marks=[0, 1])
        self.raises_cell(MixedModel, 2, cut_of, mixed, ((0,), ("low",)), 7)
        self.raises_cell(MixedModel, 0, cut_of, Model(HALVES, MODEL.box, marks=[2]), ((0,), ("low",)), 7)
        self.raises(BadStand, cut_of, MODEL, ((0,), ("low",)), 7)
        self.raises(BadStand, cut_of, MODEL, ((0, 1), ("low", "zero")), 7)
        self.raises_cell(NoCell, 3, cut_of, MODEL, ((0, 1), ("low", "low")), 3)
        self.raises_cell(NoCell, -1, cut_of, MODEL, ((0, 1), ("low", "low")), -1)
        self.raises(NoCut, cut_of, MODEL, ((0, 1), ("high", "low")), 0)

    def test_all_stands_of_many_models(self):
        found = 0
        for model in whole_models(192, 60, most=4):
            answers = slow_whole_answers(model) if all(None not in model.box[entry] for entry in pivots(model.book)) else []
            for stand in stands_of(model)[:12]:
                for cell in range(model.book.size):
                    expected = slow_cut(model, stand, cell)
                    if expected is None:
                        self.raises(NoCut, cut_of, model, stand, cell)
                        continue
                    cut = cut_of(model, stand, cell)
                    self.assertEqual(cut, expected)
                    self.assertEqual([type(part) for part in cut], [list, list, int])
                    self.assertIs(cut_holds(model, cut), True)
                    # The stand's table does not keep the cut, whole answers do.
                    self.assertGreater(fraction(dot(cut[0], stand_table(model, stand))), cut[2])
                    self.assertTrue(all(dot(cut[0], answer) <= cut[2] for answer in answers))
                    self.assertTrue(all(is_whole(x) for x in cut[0]))
                    found += 1
        self.assertGreater(found, 40)


if __name__ == "__main__":
    unittest.main()
