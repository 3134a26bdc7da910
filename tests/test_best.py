"""Points 78 to 82: best answers."""

import random
import unittest

from fineststep.best import best_box, best_price, best_ranges, cheaper_turning, how_far
from fineststep.books import Book
from fineststep.errors import BadSize, NoAnswer, NoLeast, NotAnswer, NotTable, TooWide
from fineststep.models import Model, is_answer, same_model
from fineststep.picks import pick_answer
from fineststep.ranges import ranges
from fineststep.running import solve
from helpers import (Case, engine_models, fraction, fractions, names, number_of, numbers_of, random_table, roomy_models,
                     sample_models, signed, slow_turnings, wide_books)
from slow import shown_span, slow_cell, slow_has, slow_span

BOOK = Book(["a", "b", "c"], [[1, 0, 1], [0, 1, 1]])
FREE = (None, None)
BARRED = Model(BOOK, [(0, 2), (0, 1), (5, 6)], prices=[1, 1, 1])
ENDLESS = Model(BOOK, [(0, None), (0, 1), FREE], prices=[-1, 0, 0])


def added(first, second, often):
    """Returns the sum of the first list and the second one times a Fraction, as numbers."""
    return numbers_of([x + often * y for x, y in zip(fractions(first), fractions(second))])


def answers_of(model, rng):
    """Returns some answers of the model, which stand at ends of their ranges or not."""
    found = []
    if slow_has(model.book, model.box):
        picks = [pick_answer(model, toward=[rng.randint(-4, 4) for _ in model.box]) for _ in range(3)]
        found = picks + [numbers_of([(x + y) / 2 for x, y in zip(fractions(picks[0]), fractions(picks[1]))])]
        if solve(model).kind == "best":
            found.append(list(solve(model).table))
    return found


class Cheaper(Case):
    def test_ends_of_the_ranges(self):
        model = Model(BOOK, [(0, 2), (0, 2), (0, 3)], prices=[1, 0, 0])
        self.assertEqual(cheaper_turning(model, [1, 1, 2]), [-1, 1, 0])
        self.assertEqual(cheaper_turning(model, [1, 2, 3]), [-1, 0, -1])
        self.assertIsNone(cheaper_turning(model, [0, 0, 0]))
        model = Model(BOOK, [(0, 2), (0, 2), (2, 3)], prices=[1, 0, 0])
        self.assertEqual(cheaper_turning(model, [1, 1, 2]), [-1, 1, 0])
        self.assertIsNone(cheaper_turning(model, [0, 2, 2]))
        self.assertEqual(cheaper_turning(Model(BOOK, [FREE] * 3, prices=[-1, 0, 0]), [0, 0, 0]), [1, -1, 0])

    def test_a_fixed_cell(self):
        model = Model(BOOK, [(1, 1), (0, 2), FREE], prices=[-9, -1, 0])
        self.assertEqual(cheaper_turning(model, [1, 0, 1]), [0, 1, 1])
        self.assertIsNone(cheaper_turning(model, [1, 2, 3]))

    def test_all_signed_turnings(self):
        rng = random.Random(101)
        counts = {True: 0, False: 0}
        for model in sample_models(6, 50, seed=101) + roomy_models(40, 101):
            for answer in answers_of(model, rng):
                found = []
                for row in signed(slow_turnings(model.book)):
                    goes = all((x <= 0 or high is None or fraction(y) < fraction(high))
                               and (x >= 0 or low is None or fraction(y) > fraction(low))
                               for x, y, (low, high) in zip(row, answer, model.box))
                    if goes and sum(x * y for x, y in zip(row, fractions(model.prices))) < 0:
                        found.append(row)
                self.assertEqual(cheaper_turning(model, answer), found[0] if found else None)
                low = slow_span(model.book, model.box, model.prices)[0]
                price = sum(x * y for x, y in zip(fractions(answer), fractions(model.prices)))
                self.assertIs(not found, low == price)
                counts[bool(found)] += 1
        self.assertGreater(min(counts.values()), 30)

    def test_errors(self):
        for answer in ([], [0, 0], [0] * 4):
            self.raises(BadSize, cheaper_turning, ENDLESS, answer)
        self.raises(NotTable, cheaper_turning, ENDLESS, [0, 2, 1])
        self.raises(NotAnswer, cheaper_turning, ENDLESS, [0, 2, 2])
        self.raises(NotAnswer, cheaper_turning, ENDLESS, [(-1, 9), (1, 9), 0])
        for book in wide_books():
            self.raises_wide(book.size, TooWide, cheaper_turning, Model(book, [(1, 2)] * book.size), [])


class HowFar(Case):
    MODEL = Model(BOOK, [(0, 2), (None, 5), (1, None)])

    def test_limits(self):
        for turning, expected in (([1, 0, 1], 1), ([-1, 0, -1], 1), ([0, 1, 1], 4), ([0, -1, -1], 1), ([1, -1, 0], 1),
                                  ([-1, 1, 0], 1), ([2, 0, 2], (1, 2)), ([(1, 2), 0, (1, 2)], 2), ([-1, (1, 2), (-1, 2)], 1),
                                  ([0, (2, 3), (2, 3)], 6)):
            self.assertEqual(how_far(self.MODEL, [1, 1, 2], turning), expected)

    def test_at_an_end(self):
        self.assertEqual(how_far(self.MODEL, [2, 1, 3], [1, 0, 1]), 0)
        self.assertEqual(how_far(self.MODEL, [0, 1, 1], [0, -1, -1]), 0)

    def test_no_greatest(self):
        self.assertIsNone(how_far(self.MODEL, [1, 1, 2], [0, 0, 0]))
        self.assertIsNone(how_far(Model(BOOK, [FREE] * 3), [1, 1, 2], [5, -7, -2]))
        self.assertIsNone(how_far(Model(BOOK, [(0, 1), FREE, (None, 9)]), [1, 1, 2], [0, -1, -1]))
        self.assertIsNone(how_far(Model(BOOK, [(0, 0), FREE, (None, 9)]), [0, 1, 1], (0, 0, 0)))

    def test_many_models(self):
        rng = random.Random(102)
        counts = {"none": 0, "zero": 0, "far": 0}
        for model in sample_models(6, 50, seed=102) + roomy_models(40, 102):
            for answer in answers_of(model, rng):
                turning = random_table(rng, model.book)
                far = how_far(model, answer, turning)
                if far is None:
                    self.assertIs(is_answer(model, added(answer, turning, 10 ** 9)), True)
                    counts["none"] += 1
                else:
                    self.assertIs(is_answer(model, added(answer, turning, fraction(far))), True)
                    self.assertIs(is_answer(model, added(answer, turning, fraction(far) + fraction((1, 10 ** 9)))), False)
                    counts["zero" if far == 0 else "far"] += 1
        self.assertGreater(min(counts.values()), 20)

    def test_wide_books(self):
        model = Model(Book(names(16), [[1] * 16]), [(0, 7)] + [FREE] * 15)
        self.assertEqual(how_far(model, [2] * 16, [3] * 16), (5, 3))

    def test_errors(self):
        self.raises(BadSize, how_far, self.MODEL, [1, 1], [])
        self.raises(NotTable, how_far, self.MODEL, [1, 1, 1], [])
        self.raises(NotAnswer, how_far, self.MODEL, [3, 1, 4], [])
        self.raises(NotAnswer, how_far, self.MODEL, [0, 0, 0], [1, 1, 1])
        for turning in ([], [1, 0], [0] * 4):
            self.raises(BadSize, how_far, self.MODEL, [1, 1, 2], turning)
        self.raises(NotTable, how_far, self.MODEL, [1, 1, 2], [1, 1, 1])


class Price(Case):
    def test_the_least_price(self):
        self.assertEqual(best_price(Model(BOOK, [(0, 2), (0, None), (1, (5, 2))], prices=[1, (1, 2), 0])), (1, 2))
        self.assertEqual(best_price(Model(BOOK, [FREE] * 3)), 0)
        for model in sample_models(6, 60, seed=103):
            span = slow_span(model.book, model.box, model.prices)
            if span is not None and span[0] is not None:
                self.assertEqual(best_price(model), number_of(span[0]))

    def test_no_answer_and_no_least(self):
        # The price falls forever in the second model, if only it had an answer: NoAnswer comes first.
        worse = Model(BOOK, [(0, 2), (0, 1), (5, 6)], prices=[-1, -1, -1])
        for function in (best_price, best_box, best_ranges):
            for model in (BARRED, worse):
                error = self.raises(NoAnswer, function, model)
                self.assertEqual((error.row, type(error.row)), ([1, 1, -1], list))
            error = self.raises(NoLeast, function, ENDLESS)
            self.assertEqual((error.turning, type(error.turning)), ([1, 0, 1], list))

    def test_the_row_of_the_run(self):
        counts = {"none": 0, "unbounded": 0}
        for model in sample_models(6, 80, seed=104):
            end = solve(model)
            if end.kind != "best":
                counts[end.kind] += 1
                for function in (best_price, best_box, best_ranges):
                    if end.kind == "none":
                        self.assertEqual(self.raises(NoAnswer, function, model).row, list(end.row))
                    else:
                        self.assertEqual(self.raises(NoLeast, function, model).turning, list(end.row))
        self.assertGreater(min(counts.values()), 8)

    def test_wide_books(self):
        model = Model(Book(names(16), [[1] * 16]), [(2, 7)] + [FREE] * 15, prices=[1] * 16)
        self.assertEqual([best_price(model), best_box(model).box[0]], [32, (2, 2)])
        for book in wide_books():
            self.raises_wide(book.size, TooWide, best_ranges, Model(book, [(1, 2), (0, 0)] + [(1, 2)] * (book.size - 2)))


class All(Case):
    def test_the_best_box(self):
        model = Model(BOOK, [(0, 2), (0, None), (1, (5, 2))], prices=[1, (1, 2), 0], marks=[0])
        expected = Model(BOOK, [(0, 0), (0, None), (1, 1)], prices=[1, (1, 2), 0], marks=[0])
        self.assertTrue(same_model(best_box(model), expected))
        model = Model(BOOK, [(0, 2), (0, None), (1, (5, 2))], prices=[0, 0, -1])
        self.assertTrue(same_model(best_box(model), Model(BOOK, [(0, 2), (0, None), ((5, 2), (5, 2))], prices=[0, 0, -1])))
        model = Model(BOOK, [FREE] * 3)
        self.assertTrue(same_model(best_box(model), model))

    def test_the_best_ranges(self):
        model = Model(BOOK, [(0, 2), (0, None), (1, (5, 2))], prices=[0, 0, -1])
        self.assertEqual(best_ranges(model), [(0, 2), ((1, 2), (5, 2)), ((5, 2), (5, 2))])
        model = Model(BOOK, [(0, None), FREE, (1, (5, 2))], prices=[1, 1, -1])
        self.assertEqual(best_ranges(model), [(0, None), (None, (5, 2)), (1, (5, 2))])

    def test_all_best_answers(self):
        tried = 0
        for model in sample_models(6, 60, seed=105) + engine_models(6, 40, seed=105) + roomy_models(40, 105):
            span = slow_span(model.book, model.box, model.prices)
            if span is None or span[0] is None or len(model.book.frame) > 4:
                continue
            most = [(model.prices, number_of(span[0]))]
            expected = [shown_span(slow_cell(model.book, model.box, cell, most)) for cell in range(model.book.size)]
            self.assertEqual(best_ranges(model), expected)
            self.assertEqual(ranges(best_box(model)), expected)
            # Every answer of the best box has the least price.
            left = best_box(model)
            self.assertEqual(slow_span(left.book, left.box, model.prices), (span[0], span[0]))
            self.assertEqual((left.prices, left.marks), (model.prices, model.marks))
            tried += 1
        self.assertGreater(tried, 60)


if __name__ == "__main__":
    unittest.main()
