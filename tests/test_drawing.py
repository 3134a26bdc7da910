"""Points 118 and 119: lots that are drawn up, and papers that are drawn."""

import random
import unittest
from fractions import Fraction

from fineststep.books import Book
from fineststep.drawing import draw_paper, draw_up
from fineststep.errors import BadChance, BadLot, BadSize, NotTable, TooWide
from fineststep.exact import is_whole
from fineststep.finest import finest_step
from fineststep.lots import is_lot
from fineststep.models import Model
from fineststep.picks import pick_answer
from helpers import Case, fraction, fractions, names, number_of, numbers_of, sample_books
from wholly import broken_table

BOOK = Book(["a", "b", "c"], [[1, 0, 1], [0, 1, 1]])
HALVES = Book(["a", "b", "c"], [[2, 0, 1], [0, 2, 1]])
HALF = (1, 2)


def slow_lot(book, table, toward):
    """Returns the lot, round by round as point 118 says."""
    x = fractions(table)
    floors = [Fraction(y.numerator // y.denominator) for y in x]
    ceilings = [Fraction(-(-y.numerator // y.denominator)) for y in x]
    rest, left, lot = list(x), Fraction(1), []
    while True:
        box = [(y, y) if y in (low, high) else (low, high) for y, low, high in zip(rest, floors, ceilings)]
        paper = pick_answer(Model(book, [tuple(numbers_of(ends)) for ends in box]), toward=toward)
        shares = [Fraction(1)]
        for y, p, low, high in zip(rest, fractions(paper), floors, ceilings):
            if p < y:
                shares.append((high - y) / (high - p))
            if p > y:
                shares.append((y - low) / (p - low))
        share = min(shares)
        lot.append((paper, number_of(left * share)))
        if share == 1:
            return lot
        rest = [(y - share * p) / (1 - share) for y, p in zip(rest, fractions(paper))]
        left *= 1 - share


class DrawUp(Case):
    def test_the_example(self):
        self.assertEqual(draw_up(BOOK, [HALF, HALF, 1]), [([0, 1, 1], HALF), ([1, 0, 1], HALF)])

    def test_toward(self):
        self.assertEqual(draw_up(BOOK, [HALF, HALF, 1], toward=[1, 0, 0]), [([1, 0, 1], HALF), ([0, 1, 1], HALF)])
        self.assertEqual(draw_up(BOOK, [HALF, HALF, 1], toward=[0, 0, 0]), draw_up(BOOK, [HALF, HALF, 1]))
        self.assertEqual(draw_up(BOOK, [HALF, HALF, 1], toward=(9, -9, 0)), [([1, 0, 1], HALF), ([0, 1, 1], HALF)])

    def test_whole_tables(self):
        self.assertEqual(draw_up(BOOK, (1, 2, 3)), [([1, 2, 3], 1)])
        self.assertEqual(draw_up(Book(names(2), []), [0, 0], toward=[5, 5]), [([0, 0], 1)])

    def test_finest_steps_above_1(self):
        self.assertEqual(draw_up(HALVES, [HALF, 0, (1, 4)]), [([0, 0, 0], HALF), ([1, 0, HALF], HALF)])

    def test_many_tables(self):
        rng = random.Random(281)
        lengths = []
        for book in sample_books(7, 70, seed=281):
            table = broken_table(rng, book)
            toward = rng.choice([None, [rng.randint(-3, 3) for _ in range(book.size)]])
            lot = draw_up(book, table, toward=toward)
            self.assertEqual(lot, slow_lot(book, table, toward))
            self.assertIs(is_lot(book, table, lot), True)
            self.assertLessEqual(len(lot), len(book.frame) + 1)
            step = finest_step(book)
            self.assertTrue(all(is_whole(number_of(step * x)) for paper, _ in lot for x in fractions(paper)))
            lengths.append(len(lot))
        self.assertGreaterEqual(max(lengths), 4)

    def test_errors_in_their_order(self):
        self.raises_wide(10, TooWide, draw_up, Book.free(names(10)), [], toward=[])
        self.raises(BadSize, draw_up, BOOK, [HALF, HALF], toward=[])
        self.raises(NotTable, draw_up, BOOK, [HALF, HALF, 0], toward=[])
        for toward in ([], [0, 0], [0] * 4):
            self.raises(BadSize, draw_up, BOOK, [HALF, HALF, 1], toward=toward)


class DrawPaper(Case):
    def test_numbers_at_a_sum_of_chances_and_beside_it(self):
        lot = [([1], (1, 3)), ([2], HALF), ([3], (1, 6))]
        for number, paper in ((0, [1]), ((1, 4), [1]), ((1, 3), [2]), (HALF, [2]), ((5, 6), [3]), ((99, 100), [3])):
            self.assertEqual(draw_paper(lot, number), paper)

    def test_numbers_out_of_the_limits(self):
        lot = [([1], (1, 3)), ([2], HALF)]
        for number in (-1, (-1, 1000), (5, 6), 1, 7):
            self.raises(BadChance, draw_paper, lot, number)
        self.assertEqual(draw_paper(lot, (4, 5)), [2])
        self.assertEqual(draw_paper([([1], 5)], 4), [1])

    def test_chances_of_0_and_below(self):
        lot = [([1], 0), ([2], 1), ([3], (-1, 2)), ([4], 1)]
        self.assertEqual(draw_paper(lot, 0), [2])
        self.assertEqual(draw_paper(lot, (3, 4)), [2])
        self.assertEqual(draw_paper(lot, 1), [4])
        self.raises(BadChance, draw_paper, lot, (3, 2))
        self.raises(BadChance, draw_paper, [([1], 0)], 0)

    def test_an_empty_lot_comes_ahead_of_a_bad_chance(self):
        for number in (0, -1, 1):
            self.raises(BadLot, draw_paper, [], number)

    def test_many_numbers(self):
        rng = random.Random(282)
        for _ in range(60):
            lot = [([k], number_of(Fraction(rng.randint(1, 5), rng.randint(1, 5)))) for k in range(rng.randint(1, 5))]
            number = Fraction(rng.randint(0, 40), rng.randint(1, 6))
            total, expected = Fraction(0), None
            for paper, chance in lot:
                total += fraction(chance)
                if expected is None and total > number:
                    expected = paper
            if expected is None:
                self.raises(BadChance, draw_paper, lot, number_of(number))
            else:
                self.assertEqual(draw_paper(lot, number_of(number)), expected)


if __name__ == "__main__":
    unittest.main()
