"""Point 85: the least price as the number of a cell moves."""

import random
import unittest
from fractions import Fraction

from fineststep.barring import barring
from fineststep.books import Book
from fineststep.errors import NoAnswer, NoCell, NoLeast, TooWide
from fineststep.models import Model, with_range
from fineststep.pieces import piece_price, price_pieces
from fineststep.ranges import cell_range
from helpers import (Case, engine_models, fraction, names, number_of, roomy_models, sample_models, signed, slow_turnings,
                     wide_books)
from slow import slow_span

BOOK = Book(["a", "b", "c"], [[1, 0, 1], [0, 1, 1]])
FREE = (None, None)


def slow_price(model, cell, number):
    """Returns the least price of the answers with this number at the cell."""
    box = list(model.box)
    box[cell] = (number, number)
    return number_of(slow_span(model.book, box, model.prices)[0])


def first_endless(model, cell):
    """Returns the first signed turning that point 85 names, or None."""
    for row in signed(slow_turnings(model.book)):
        free = all(x == 0 or (high if x > 0 else low) is None for x, (low, high) in zip(row, model.box))
        if row[cell] == 0 and free and sum(x * fraction(price) for x, price in zip(row, model.prices)) < 0:
            return row
    return None


class Pieces(Case):
    def test_the_example(self):
        model = Model(BOOK, [(0, 2), (0, None), FREE], prices=[1, 3, 0])
        self.assertEqual(price_pieces(model, 2), [(0, 2, 0, 1), (2, None, -4, 3)])

    def test_slopes_below_0_and_above(self):
        book = Book(["a", "b", "c"], [[1, 0, 1], [0, 1, -1]])
        model = Model(book, [(0, 4), (0, 4), FREE], prices=[2, 3, 0])
        self.assertEqual(price_pieces(model, 2), [(-4, 0, 0, -3), (0, 4, 0, 2)])
        model = Model(book, [(0, None), (0, None), FREE], prices=[2, 3, 0])
        self.assertEqual(price_pieces(model, 2), [(None, 0, 0, -3), (0, None, 0, 2)])
        model = Model(book, [(0, None), (0, None), FREE], prices=[2, 3, 3])
        self.assertEqual(price_pieces(model, 2), [(None, 0, 0, 0), (0, None, 0, 5)])
        self.assertEqual(price_pieces(Model(BOOK, [FREE] * 3), 0), [(None, None, 0, 0)])
        self.assertEqual(price_pieces(Model(Book.free(["a"]), [(1, None)], prices=[(-1, 2)]), 0), [(1, None, 0, (-1, 2))])

    def test_one_number(self):
        model = Model(BOOK, [(0, 2), (0, 1), (3, 6)], prices=[1, (1, 2), 3])
        self.assertEqual([price_pieces(model, cell) for cell in range(3)],
                         [[(2, 2, (23, 2), 0)], [(1, 1, (23, 2), 0)], [(3, 3, (23, 2), 0)]])
        model = Model(BOOK, [((1, 2), (1, 2)), (0, None), FREE], prices=[-4, 1, 0])
        self.assertEqual(price_pieces(model, 0), [((1, 2), (1, 2), -2, 0)])
        self.assertEqual(price_pieces(Model(Book(["a"], []), [FREE], prices=[9]), 0), [(0, 0, 0, 0)])

    def test_the_range_of_the_cell_counts(self):
        model = Model(BOOK, [(0, 2), (0, None), (1, (5, 2))], prices=[1, 3, 0])
        self.assertEqual(price_pieces(model, 2), [(1, 2, 0, 1), (2, (5, 2), -4, 3)])
        model = Model(BOOK, [(0, 2), (0, None), (2, 5)], prices=[1, 3, 0])
        self.assertEqual(price_pieces(model, 2), [(2, 5, -4, 3)])
        model = Model(BOOK, [(0, 2), (0, None), (None, 2)], prices=[1, 3, 0])
        self.assertEqual(price_pieces(model, 2), [(0, 2, 0, 1)])

    def test_joints_that_are_fractions(self):
        book = Book(["a", "b"], [[2, 3]])
        self.assertEqual(price_pieces(Model(book, [(0, 1), FREE], prices=[1, 1]), 1), [(0, (3, 2), 0, (5, 3))])
        book = Book(["a", "b", "c"], [[1, 0, 2], [0, 1, 3]])
        model = Model(book, [(0, (1, 2)), (0, None), FREE], prices=[1, 2, 0])
        self.assertEqual(price_pieces(model, 2), [(0, 1, 0, (1, 2)), (1, None, (-1, 6), (2, 3))])

    def test_many_models(self):
        counts = {"one": 0, "two": 0, "more": 0, "number": 0}
        rng = random.Random(121)
        for model in sample_models(6, 40, seed=121) + engine_models(6, 20, seed=121) + roomy_models(80, 121):
            cell = rng.randrange(model.book.size)
            if len(model.book.frame) > 4 or barring(model) is not None or first_endless(model, cell) is not None:
                continue
            pieces = price_pieces(model, cell)
            low, high = cell_range(model, cell)
            self.assertEqual((pieces[0][0], pieces[-1][1]), (low, high))
            for before, after in zip(pieces, pieces[1:]):
                self.assertEqual(before[1], after[0])
                self.assertLess(fraction(before[3]), fraction(after[3]))
                self.assertEqual(piece_price([before], before[1]), piece_price([after], before[1]))
            for first, last, base, slope in pieces:
                if low is not None and low == high:
                    self.assertEqual((base, slope), (slow_price(model, cell, low), 0))
                    continue
                start = fraction(last) - 2 if first is None and last is not None else fraction(first or 0)
                end = start + 2 if last is None else fraction(last)
                self.assertLess(start, end)
                for part in (Fraction(0), Fraction(1, 3), Fraction(1)):
                    number = number_of(start + (end - start) * part)
                    self.assertEqual(number_of(fraction(base) + fraction(slope) * fraction(number)), slow_price(model, cell, number))
            key = "number" if low is not None and low == high else {1: "one", 2: "two"}.get(len(pieces), "more")
            counts[key] += 1
        self.assertGreater(min(counts.values()), 2, counts)
        self.assertGreater(counts["two"], 10)

    def test_many_pieces(self):
        # The cells of the first row are used one after the other, the cheapest first.
        book = Book(names(8), [[int(k in (cell, 7)) for k in range(8)] for cell in range(7)])
        model = Model(book, [(0, 1)] * 7 + [FREE], prices=[5, 3, 1, 2, 4, 7, 6, 0])
        expected, base = [], 0
        for k in range(7):
            expected.append((k, k + 1, base, k + 1))
            base -= k + 1
        self.assertEqual(price_pieces(model, 7), expected)

    def test_no_cell_comes_before_no_answer_and_that_before_no_least(self):
        worse = Model(BOOK, [(0, 2), (0, 1), (5, 6)], prices=[1, 0, 0])
        for cell in (-1, 3):
            self.raises_cell(NoCell, cell, price_pieces, worse, cell)
        error = self.raises(NoAnswer, price_pieces, worse, 1)
        self.assertEqual((error.row, type(error.row)), ([1, 1, -1], list))
        book = Book(names(4), [[1, 0, 1, 0], [0, 1, 1, 0], [0, 0, 0, 1]])
        both = Model(book, [(0, 2), (0, 1), (5, 6), FREE], prices=[0, 0, 0, 1])
        self.assertEqual(self.raises(NoAnswer, price_pieces, both, 0).row, [1, 1, -1, 0])
        ends = Model(book, [(0, 2), (0, 1), (0, 6), FREE], prices=[0, 0, 0, 1])
        error = self.raises(NoLeast, price_pieces, ends, 0)
        self.assertEqual((error.turning, type(error.turning)), ([0, 0, 0, -1], list))
        self.assertEqual(price_pieces(ends, 3), [(None, None, 0, 1)])

    def test_no_least(self):
        found = 0
        rng = random.Random(122)
        for model in sample_models(6, 90, seed=122) + roomy_models(90, 122):
            cell = rng.randrange(model.book.size)
            row = first_endless(model, cell)
            if barring(model) is None and row is not None:
                self.assertEqual(self.raises(NoLeast, price_pieces, model, cell).turning, row)
                low = cell_range(model, cell)[0]
                high = cell_range(model, cell)[1]
                number = low if low is not None else high if high is not None else 0
                self.assertIsNone(slow_span(model.book, with_range(model, cell, number, number).box, model.prices)[0])
                found += 1
        self.assertGreater(found, 10)

    def test_too_wide(self):
        for book in wide_books():
            self.raises_wide(book.size, TooWide, price_pieces, Model(book, [(1, 2)] * book.size), -1)


class Prices(Case):
    PIECES = [(0, 2, 0, 1), (2, (7, 2), -4, 3), ((7, 2), None, (-15, 2), 4)]

    def test_at_joints_between_and_outside(self):
        for number, price in ((0, 0), (1, 1), ((3, 2), (3, 2)), (2, 2), (3, 5), ((7, 2), (13, 2)), (4, (17, 2)), (100, (785, 2))):
            self.assertEqual(piece_price(self.PIECES, number), price)
        for number in (-1, (-1, 9)):
            self.assertIsNone(piece_price(self.PIECES, number))

    def test_edges(self):
        self.assertIsNone(piece_price([], 0))
        self.assertEqual([piece_price([(3, 3, 7, 0)], number) for number in (2, 3, (10, 3))], [None, 7, None])
        self.assertEqual(piece_price([(None, None, (1, 2), (-1, 2))], -3), 2)
        self.assertEqual([piece_price([(None, 0, 1, -1), (0, 1, 1, 0)], number) for number in (-5, 0, 1, 2)], [6, 1, 1, None])


if __name__ == "__main__":
    unittest.main()
