"""Points 60 and 61: answers of k-ths."""

import itertools
import random
import unittest
from fractions import Fraction
from math import ceil, floor

from fineststep.books import Book, pivots
from fineststep.errors import BadStep, NoEnd, TooMany
from fineststep.finest import finest_step
from fineststep.kths import first_kth, is_kth, kth_answers
from fineststep.models import Model, is_answer, with_mark
from fineststep.witness import step_witness, witness_box
from helpers import Case, fraction, names, number_of, random_number, sample_books
from slow import slow_has, slow_table

BOOK = Book(["a", "b", "c"], [[2, 1, 0], [0, 3, 3]])
FREE = (None, None)


def slow_answers(model, k):
    """Returns the answers of k-ths as lists of Fractions, in order."""
    found = []
    entries = pivots(model.book)
    ends = [[fraction(end) for end in model.box[entry]] for entry in entries]
    grids = [[Fraction(top, k) for top in range(floor(low) * k - k, ceil(high) * k + k + 1)] for low, high in ends]
    for values in itertools.product(*grids):
        table = slow_table(model.book, entries, list(values)) if entries else [Fraction(0)] * model.book.size
        if all((x * k).denominator == 1 for x in table) and is_answer(model, [number_of(x) for x in table]):
            found.append(table)
    return sorted(found)


class Kths(Case):
    def test_lists(self):
        self.assertIs(is_kth([0, 3, -7], 1), True)
        self.assertIs(is_kth([(1, 2), (-3, 2), 1], 2), True)
        self.assertIs(is_kth([(1, 2), (1, 3)], 6), True)
        self.assertIs(is_kth([(1, 2), (1, 3)], 4), False)
        self.assertIs(is_kth([0, (1, 2)], 1), False)
        self.assertIs(is_kth([(1, 4)], 2), False)
        self.assertIs(is_kth([(5, 6)], 12), True)
        self.assertIs(is_kth([], 1), True)
        self.assertIs(is_kth([(1, 10 ** 30)], 10 ** 31), True)

    def test_bad_step(self):
        model = Model(BOOK, [FREE] * 3)
        for k in (0, -1, -6):
            self.raises(BadStep, is_kth, [0], k)
            self.raises(BadStep, is_kth, [], k)
            self.raises(BadStep, kth_answers, model, k)
            self.raises(BadStep, first_kth, model, k)


class Answers(Case):
    def test_whole_numbers(self):
        model = Model(BOOK, [(0, 2), (0, 1), FREE])
        self.assertEqual(kth_answers(model, 1), [[0, 0, 0], [0, 1, 1], [2, 0, -1], [2, 1, 0]])
        self.assertEqual(first_kth(model, 1), [0, 0, 0])

    def test_halves(self):
        model = Model(BOOK, [(0, 1), (0, (1, 2)), FREE])
        self.assertEqual(kth_answers(model, 2), [[0, 0, 0], [0, (1, 2), (1, 2)], [1, 0, (-1, 2)], [1, (1, 2), 0]])
        self.assertEqual(kth_answers(model, 1), [[0, 0, 0]])

    def test_ranges_of_sums_count(self):
        model = Model(BOOK, [(0, 2), (0, 1), (1, 5)])
        self.assertEqual(kth_answers(model, 1), [[0, 1, 1]])
        model = Model(BOOK, [(0, 2), (0, 1), (2, None)])
        self.assertEqual([kth_answers(model, 3), first_kth(model, 3)], [[], None])

    def test_a_range_without_a_kth(self):
        model = Model(BOOK, [((1, 3), (2, 3)), (0, 1), FREE])
        self.assertEqual([kth_answers(model, 1), first_kth(model, 1)], [[], None])
        self.assertEqual(kth_answers(Model(Book.free(["a"]), [((1, 3), (2, 3))]), 2), [[(1, 2)]])
        # Nothing is gone through beside it, and there are not too many candidates.
        long = Model(Book.free(["a", "b"]), [(0, 10 ** 30), ((1, 3), (2, 3))])
        self.assertEqual([kth_answers(long, 1), first_kth(long, 1)], [[], None])
        self.assertEqual(self.raises(TooMany, kth_answers, long, 2).many, 2 * 10 ** 30 + 1)
        nowhere = [((1, 3), (2, 3)), ((-2, 3), (-1, 3))]
        long = Model(Book.free(["a", "b", "c"]), nowhere + [(0, 10 ** 30)])
        self.assertEqual([kth_answers(long, 1), first_kth(long, 1)], [[], None])

    def test_fractional_ends(self):
        model = Model(Book.free(["a"]), [((-7, 2), (-1, 3))])
        self.assertEqual(kth_answers(model, 1), [[-3], [-2], [-1]])
        self.assertEqual(kth_answers(model, 2), [[(-7, 2)], [-3], [(-5, 2)], [-2], [(-3, 2)], [-1], [(-1, 2)]])
        self.assertEqual(first_kth(model, 3), [(-10, 3)])

    def test_no_entries(self):
        self.assertEqual(kth_answers(Model(Book(names(2), []), [FREE] * 2), 1), [[0, 0]])
        self.assertEqual(kth_answers(Model(Book(names(2), []), [FREE, (1, 2)]), 1), [])

    def test_ascending_order(self):
        model = Model(Book(["a", "b", "c"], [[0, 1, -1], [0, 0, 0]]), [FREE, (-1, 1), FREE])
        self.assertEqual(kth_answers(model, 1), [[0, -1, 1], [0, 0, 0], [0, 1, -1]])

    def test_many_models(self):
        rng = random.Random(55)
        for book in sample_books(5, 40, seed=55):
            if len(book.frame) <= 3:
                box = [rng.choice([FREE, (-3, 3), (None, 2)]) for _ in range(book.size)]
                for entry in pivots(book):
                    low = random_number(rng, most=1)
                    box[entry] = (low, number_of(fraction(low) + rng.choice([0, Fraction(1, 2), 1])))
                model = Model(book, box)
                for k in (1, 2, 3):
                    found = kth_answers(model, k)
                    self.assertEqual([[fraction(x) for x in table] for table in found], slow_answers(model, k))
                    self.assertEqual(first_kth(model, k), found[0] if found else None)
                    for table in found:
                        self.assert_numbers(table)

    def test_marks_make_no_difference(self):
        model = Model(Book.free(["a", "b"]), [(0, 1), (0, 0)])
        self.assertEqual(kth_answers(with_mark(model, 0, True), 2), kth_answers(model, 2))
        self.assertEqual(kth_answers(with_mark(model, 0, True), 2), [[0, 0], [(1, 2), 0], [1, 0]])

    def test_exactly_1000_candidates(self):
        book = Book.free(["a", "b", "c"])
        model = Model(book, [(0, 9)] * 3)
        self.assertEqual(len(kth_answers(model, 1)), 1000)
        self.assertEqual(first_kth(model, 1), [0, 0, 0])
        one = Model(Book.free(["a"]), [(1, 500)])
        self.assertEqual(len(kth_answers(one, 2)), 999)
        self.assertEqual(len(kth_answers(Model(Book.free(["a"]), [(1, (1001, 2))]), 2)), 1000)
        self.assertEqual(len(kth_answers(Model(Book.free(["a"]), [(1, (3002, 3))]), 1)), 1000)

    def test_too_many_candidates(self):
        self.assertEqual(self.raises(TooMany, kth_answers, Model(Book.free(["a"]), [(1, 501)]), 2).many, 1001)
        self.assertEqual(self.raises(TooMany, first_kth, Model(Book.free(["a"]), [(1, 501)]), 2).many, 1001)
        model = Model(Book.free(["a", "b", "c"]), [(0, 9), (0, 9), (0, 10)])
        self.assertEqual(self.raises(TooMany, kth_answers, model, 1).many, 1100)
        # Only entries count, and all the k-ths in their ranges, also where no answer has them.
        book = Book(["a", "b", "c"], [[1, 0, 1], [0, 1, 1]])
        self.assertEqual(self.raises(TooMany, kth_answers, Model(book, [(0, 39), (0, 39), (0, 0)]), 1).many, 1600)
        self.assertEqual(len(kth_answers(Model(book, [(0, 9), (0, 9), (0, 10 ** 9)]), 1)), 100)

    def test_no_end(self):
        book = Book(["a", "b", "c", "d"], [[1, 0, 0, 1], [0, 0, 1, 1]])
        self.raises_cell(NoEnd, 2, kth_answers, Model(book, [(0, 10 ** 9), FREE, (0, None), FREE]), 1)
        self.raises_cell(NoEnd, 2, first_kth, Model(book, [(0, 1), FREE, (None, 0), FREE]), 1)
        self.raises_cell(NoEnd, 0, kth_answers, Model(book, [(None, 0), FREE, FREE, FREE]), 1)
        # A range without a k-th makes no difference for the errors.
        self.raises_cell(NoEnd, 2, kth_answers, Model(book, [((1, 3), (2, 3)), FREE, FREE, FREE]), 1)
        self.assertEqual(kth_answers(Model(book, [(0, 0), FREE, (0, 0), FREE]), 1), [[0, 0, 0, 0]])

    def test_wide_books(self):
        model = Model(Book.free(names(16)), [(0, 0)] * 15 + [(0, 2)])
        self.assertEqual([table[15] for table in kth_answers(model, 1)], [0, 1, 2])


class FinestStep(Case):
    def test_the_finest_step_divides_k(self):
        rng = random.Random(56)
        tried = 0
        for book in sample_books(5, 60, seed=56):
            step = finest_step(book)
            if len(book.frame) > 2 or step > 6:
                continue
            box = []
            for _ in range(book.size):
                low = rng.randint(-3, 2)
                box.append((low, low + rng.randint(0, 2)))
            if slow_has(book, box):
                for k in (step, 2 * step):
                    self.assertIsNotNone(first_kth(Model(book, box), k))
                tried += 1
        self.assertGreater(tried, 10)

    def test_boxes_of_witnesses(self):
        tried = 0
        for book in sample_books(6, 60, seed=57):
            step = finest_step(book)
            for k in range(1, 5):
                witness = step_witness(book, k)
                self.assertIs(witness is not None, k % step != 0)
                if witness is not None:
                    model = Model(book, witness_box(witness))
                    self.assertTrue(slow_has(book, model.box))
                    self.assertEqual([kth_answers(model, k), first_kth(model, k)], [[], None])
                    tried += 1
        self.assertGreater(tried, 20)


if __name__ == "__main__":
    unittest.main()
