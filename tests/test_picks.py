"""Points 58 and 59: the pick toward a list of whole numbers."""

import random
import unittest

from fineststep.barring import barring
from fineststep.books import Book
from fineststep.errors import BadSize, NoAnswer, TooWide
from fineststep.exact import is_whole, times
from fineststep.finest import finest_step
from fineststep.models import Model, is_answer
from fineststep.picks import pick_answer
from helpers import Case, fraction, names, number_of, sample_models, wide_books
from slow import slow_cell, slow_has

BOOK = Book(["a", "b", "c"], [[1, 0, 1], [0, 1, 1]])
FREE = (None, None)


def slow_pick(model, toward):
    """Returns the pick, with the range of each cell found by eliminating variables."""
    box = list(model.box)
    for cell, wanted in enumerate(toward):
        low, high = slow_cell(model.book, box, cell)
        number = fraction(wanted)
        if low is not None and number < low:
            number = low
        if high is not None and number > high:
            number = high
        box[cell] = (number_of(number), number_of(number))
    return [low for low, _ in box]


class Picks(Case):
    def test_toward_zeros(self):
        self.assertEqual(pick_answer(Model(BOOK, [FREE] * 3)), [0, 0, 0])
        self.assertEqual(pick_answer(Model(BOOK, [(0, 2), (0, None), (1, (5, 2))])), [0, 1, 1])
        self.assertEqual(pick_answer(Model(BOOK, [(-3, -1), FREE, FREE])), [-1, 0, -1])
        self.assertEqual(pick_answer(Model(BOOK, [FREE, FREE, (5, 6)])), [0, 5, 5])

    def test_toward_other_lists(self):
        model = Model(BOOK, [(0, 2), (0, None), (1, (5, 2))])
        self.assertEqual(pick_answer(model, toward=[5, 5, 5]), [2, (1, 2), (5, 2)])
        self.assertEqual(pick_answer(model, toward=[1, 1, 9]), [1, 1, 2])
        self.assertEqual(pick_answer(model, toward=(1, 9, 0)), [1, (3, 2), (5, 2)])
        self.assertEqual(pick_answer(model, toward=[-7, -7, -7]), [0, 1, 1])
        self.assertEqual(pick_answer(Model(BOOK, [FREE] * 3), toward=[1, 2, 7]), [1, 2, 3])
        self.assertEqual(pick_answer(model, toward=None), [0, 1, 1])

    def test_ends_that_are_fractions(self):
        model = Model(Book.free(["a", "b"]), [((1, 2), (5, 2)), ((-5, 2), (-1, 2))])
        self.assertEqual(pick_answer(model), [(1, 2), (-1, 2)])
        self.assertEqual(pick_answer(model, toward=[3, -3]), [(5, 2), (-5, 2)])
        self.assertEqual(pick_answer(model, toward=[2, -2]), [2, -2])

    def test_halves(self):
        # Two cells must add up to an odd number and be equal: the pick is a half, whatever it is drawn toward.
        book = Book(["a", "b", "c"], [[1, 1, 2]])
        model = Model(book, [FREE, FREE, (1, 1)])
        for toward in ([0, 0, 0], [1, 1, 1], [-5, 3, 2]):
            self.assertEqual(pick_answer(model, toward=toward), [(1, 2), (1, 2), 1])
        model = Model(book, [FREE, FREE, (-1, -1)])
        self.assertEqual(pick_answer(model), [(-1, 2), (-1, 2), -1])

    def test_one_answer(self):
        self.assertEqual(pick_answer(Model(BOOK, [(0, 2), (0, 1), (3, 6)]), toward=[-9, 9, 0]), [2, 1, 3])
        self.assertEqual(pick_answer(Model(Book(names(3), []), [FREE] * 3), toward=[1, 2, 3]), [0, 0, 0])

    def test_many_models(self):
        rng = random.Random(53)
        for model in sample_models(6, 60, seed=53):
            if slow_has(model.book, model.box):
                toward = [rng.randint(-5, 5) for _ in model.box]
                found = pick_answer(model, toward=toward)
                self.assert_numbers(found)
                self.assertEqual(found, slow_pick(model, toward))
                self.assertEqual(pick_answer(model), slow_pick(model, [0] * model.book.size))
                self.assertIs(is_answer(model, found), True)

    def test_the_finest_step_times_a_pick_is_whole(self):
        rng = random.Random(54)
        fractional = 0
        for model in sample_models(7, 80, seed=54, entries=4, whole=True):
            if barring(model) is None:
                step = finest_step(model.book)
                found = pick_answer(model, toward=[rng.randint(-5, 5) for _ in model.box])
                self.assertTrue(all(is_whole(times(step, number)) for number in found))
                fractional += not all(is_whole(number) for number in found)
        self.assertGreater(fractional, 5)

    def test_marks_and_prices_make_no_difference(self):
        book = Book(["a", "b", "c"], [[1, 1, 2]])
        self.assertEqual(pick_answer(Model(book, [FREE, FREE, (1, 1)], prices=[5, 5, 5], marks=[0, 1])), [(1, 2), (1, 2), 1])


class Errors(Case):
    def test_bad_size_comes_before_no_answer(self):
        model = Model(BOOK, [(0, 2), (0, 1), (5, 6)])
        for toward in ([], [0, 0], [0] * 4):
            self.raises(BadSize, pick_answer, model, toward=toward)
        error = self.raises(NoAnswer, pick_answer, model, toward=[0, 0, 0])
        self.assertEqual((error.row, type(error.row)), ([1, 1, -1], list))
        self.assertEqual(self.raises(NoAnswer, pick_answer, model).row, barring(model))

    def test_too_wide(self):
        for book in wide_books():
            self.raises_wide(book.size, TooWide, pick_answer, Model(book, [(1, 2)] * book.size), toward=[])

    def test_toward_is_passed_by_its_name(self):
        self.raises(TypeError, pick_answer, Model(BOOK, [FREE] * 3), [0, 0, 0])


if __name__ == "__main__":
    unittest.main()
