"""Points 95 to 98: sure whole cells, distances, and lowest whole answers of whole models."""

import random
import unittest

from fineststep.books import Book
from fineststep.errors import BadSize, MixedModel, NoEnd, NotAnswer, NotTable, NotWhole, TooMany, TooWide
from fineststep.lowering import cheaper_whole, distance, is_whole_model, lowest_whole, sure_whole, whole_answer
from fineststep.models import Model, is_whole_answer, price_of
from fineststep.running import solve
from helpers import Case, fraction, fractions, names, number_of, random_number, sample_models, signed
from slow import slow_within
from wholly import slow_lowest, slow_price, slow_sure, slow_whole_answers, slow_whole_turnings, whole_models

FREE = (None, None)
BOOK = Book(["a", "b", "c"], [[1, 0, 1], [0, 1, 1]])
HALVES = Book(["a", "b", "c"], [[2, 0, 1], [0, 2, 1]])
OVER = Book(["a", "b"], [[1250, 1]])


def marked(book, box, prices=None):
    """Returns the model in which all cells are marked."""
    return Model(book, box, prices=prices, marks=range(book.size))


class SureWhole(Case):
    def test_some_entries_marked(self):
        model = Model(BOOK, [FREE] * 3, marks=[1])
        self.assertEqual((sure_whole(model), is_whole_model(model)), ([1], False))
        self.assertEqual(sure_whole(Model(BOOK, [FREE] * 3, marks=[2, 0])), [0, 2])
        self.assertEqual(sure_whole(Model(BOOK, [FREE] * 3)), [])

    def test_all_entries_marked(self):
        model = Model(BOOK, [FREE] * 3, marks=[0, 1])
        self.assertEqual((sure_whole(model), is_whole_model(model)), ([0, 1, 2], True))

    def test_sums_whose_numbers_are_multiples_and_sums_whose_numbers_are_not(self):
        book = Book(names(5), [[2, 0, 4, 1, 0], [0, 3, -3, 6, 6]])
        self.assertEqual(book.frame, ((2, 0, 4, 1, 0), (0, 1, -1, 2, 2)))
        self.assertEqual(sure_whole(Model(book, [FREE] * 5, marks=[0, 1])), [0, 1, 2, 4])
        self.assertEqual(sure_whole(Model(book, [FREE] * 5, marks=[0, 1, 3])), [0, 1, 2, 3, 4])
        self.assertIs(is_whole_model(Model(book, [FREE] * 5, marks=[0, 1, 3])), True)
        self.assertEqual(sure_whole(Model(book, [FREE] * 5, marks=[0, 2, 3])), [0, 2, 3])

    def test_books_without_entries(self):
        model = Model(Book(names(3), []), [FREE, (1, 2), (None, 5)])
        self.assertEqual((sure_whole(model), is_whole_model(model)), ([0, 1, 2], True))

    def test_many_models_of_any_size(self):
        for model in sample_models(7, 60, seed=171, entries=7):
            self.assertEqual(sure_whole(model), slow_sure(model))
            self.assertIs(is_whole_model(model), len(slow_sure(model)) == model.book.size)
        wide = Model(Book.free(names(16)), [FREE] * 16, marks=range(16))
        self.assertEqual((sure_whole(wide), is_whole_model(wide)), (list(range(16)), True))


class Distance(Case):
    def test_numbers_at_the_ends_and_outside_them_on_either_side(self):
        model = Model(BOOK, [(0, 2), (0, None), (1, (5, 2))])
        self.assertEqual(distance(model, [0, 0, 1]), 0)
        self.assertEqual(distance(model, [2, 7, (5, 2)]), 0)
        self.assertEqual(distance(model, [-1, 7, 1]), 1)
        self.assertEqual(distance(model, [3, (-1, 2), 3]), 2)
        self.assertEqual(distance(model, ((7, 3), (-1, 3), (3, 4))), (11, 12))

    def test_ends_none(self):
        model = Model(BOOK, [FREE, (None, 1), (1, None)])
        self.assertEqual(distance(model, [100, -100, 100]), 0)
        self.assertEqual(distance(model, [-100, 3, -1]), 4)

    def test_the_numbers_need_not_be_a_table(self):
        self.assertEqual(distance(Model(Book(names(2), []), [(1, 1), (2, 2)]), [5, 5]), 7)

    def test_bad_size(self):
        for numbers in ([], [0, 0], [0] * 4):
            self.raises(BadSize, distance, Model(BOOK, [FREE] * 3), numbers)

    def test_many_models(self):
        rng = random.Random(172)
        for model in sample_models(6, 40, seed=172):
            numbers = [random_number(rng, most=5) for _ in model.box]
            total = 0
            for x, (low, high) in zip(fractions(numbers), model.box):
                total += max(0, fraction(low) - x) if low is not None else 0
                total += max(0, x - fraction(high)) if high is not None else 0
            self.assertEqual(distance(model, numbers), number_of(total))
            self.assertIs(distance(model, numbers) == 0, slow_within(numbers, model.box))


class CheaperWhole(Case):
    def test_the_first_one(self):
        model = marked(HALVES, [(0, 9)] * 3, [1, -1, 0])
        # The turning [1, -1, 0] comes first, and its negative has a price below 0; [0, 2, 1] comes after it.
        self.assertEqual(cheaper_whole(model, [2, 2, 2]), [-1, 1, 0])
        self.assertEqual(cheaper_whole(model, [0, 2, 1]), [0, 2, 1])
        self.assertIsNone(cheaper_whole(model, [0, 8, 4]))

    def test_entries_may_have_no_ends(self):
        model = Model(HALVES, [FREE] * 3, prices=[0, 0, 1], marks=[0, 1, 2])
        self.assertEqual(cheaper_whole(model, [0, 0, 0]), [0, -2, -1])

    def test_errors_in_their_order(self):
        mixed = Model(OVER, [FREE] * 2, marks=[1])
        self.raises_wide(10, TooWide, cheaper_whole, Model(Book.free(names(10)), [FREE] * 10), [])
        self.raises_cell(MixedModel, 0, cheaper_whole, mixed, [])
        self.raises_cell(MixedModel, 1, cheaper_whole, Model(BOOK, [FREE] * 3, marks=[0]), [])
        self.raises_cell(MixedModel, 2, cheaper_whole, Model(HALVES, [FREE] * 3, marks=[0, 1]), [])
        model = marked(OVER, [(0, 1250), (0, None)])
        self.raises(BadSize, cheaper_whole, model, [0])
        self.raises(NotTable, cheaper_whole, model, [-1, 0])
        self.raises(NotAnswer, cheaper_whole, model, [-1, (-1, 1250)])
        self.raises(NotWhole, cheaper_whole, model, [1, (1, 1250)])
        self.assertEqual(self.raises(TooMany, cheaper_whole, model, [0, 0]).many, 2501)

    def test_none_exactly_for_lowest_whole_answers(self):
        found = 0
        for model in whole_models(173, 60):
            lowest = slow_lowest(model)
            turnings = signed(slow_whole_turnings(model.book))
            for answer in slow_whole_answers(model)[:20]:
                row = cheaper_whole(model, answer)
                ways = [way for way in turnings if slow_price(model, way) < 0
                        and slow_within([x + y for x, y in zip(answer, way)], model.box)]
                self.assertEqual(row, ways[0] if ways else None)
                self.assertIs(row is None, slow_price(model, answer) == lowest)
                found += row is not None
        self.assertGreater(found, 50)


class LowestWhole(Case):
    def check(self, model):
        """Compares whole_answer and lowest_whole with a search of all whole answers; returns whether there is one."""
        lowest = slow_lowest(model)
        end, answer = lowest_whole(model), whole_answer(model)
        if lowest is None:
            self.assertEqual((end, answer), (None, None))
            return False
        price, table = end
        self.assertEqual((price, price_of(model, table)), (number_of(lowest), number_of(lowest)))
        self.assertTrue(is_whole_answer(model, table) and is_whole_answer(model, answer))
        self.assertEqual({type(x) for x in table + answer}, {int})
        return True

    def test_models_without_an_answer_and_without_a_whole_one(self):
        none = marked(BOOK, [(0, 1), (0, 1), (3, 4)])
        self.assertEqual((solve(none).kind, lowest_whole(none), whole_answer(none)), ("none", None, None))
        broken = marked(HALVES, [(1, 1), (0, 0), (0, 1)])
        self.assertEqual((lowest_whole(broken), whole_answer(broken)), (None, None))
        between = Model(BOOK, [(0, 5), (0, 5), ((1, 3), (2, 3))], marks=[0, 1])
        self.assertEqual((solve(between).kind, lowest_whole(between)), ("best", None))

    def test_fractions_as_ends_and_prices_of_either_sign(self):
        model = Model(BOOK, [(0, 5), (0, 5), ((1, 3), (7, 2))], prices=[-1, (-3, 2), 1], marks=[0, 1])
        self.assertEqual(lowest_whole(model), ((-3, 2), [0, 3, 3]))
        model = Model(BOOK, [(0, 5), (0, 5), ((1, 3), (7, 2))], prices=[1, 1, (1, 2)], marks=[0, 1])
        self.assertEqual(lowest_whole(model)[0], (3, 2))

    def test_far_from_the_best_answer_without_marks(self):
        # The best answer is at a = 7/2; whole answers need an even sum.
        model = marked(HALVES, [(0, 7), (0, 0), (0, 9)], [-1, 0, 0])
        self.assertEqual(lowest_whole(model), (-6, [6, 0, 3]))

    def test_wide_ranges(self):
        far = 10 ** 18
        model = marked(HALVES, [(-far, far + 1), (1 - far, far), (-far, far)], [-1, -1, (1, 2)])
        price, table = lowest_whole(model)
        self.assertEqual((price, table[0] + table[1], is_whole_answer(model, table)), (-3 * far // 2, 2 * far, True))
        thin = marked(Book(names(3), [[1, 0, 3], [0, 1, -3]]), [(-far, far), (-far, far), (1, 2)])
        self.assertIsNone(whole_answer(thin))

    def test_books_without_entries(self):
        book = Book(names(2), [])
        self.assertEqual(lowest_whole(Model(book, [FREE, (-1, 0)], prices=[1, 2])), (0, [0, 0]))
        self.assertEqual(whole_answer(Model(book, [FREE, (-1, 0)])), [0, 0])
        self.assertIsNone(lowest_whole(Model(book, [FREE, (1, 2)])))

    def test_against_a_search_of_all_whole_answers(self):
        seen = [self.check(model) for model in whole_models(174, 150)]
        self.assertGreater(seen.count(True), 40)
        self.assertGreater(seen.count(False), 15)

    def test_against_a_search_in_wider_boxes(self):
        self.assertGreater([self.check(model) for model in whole_models(175, 40, most=4, wide=9)].count(True), 15)

    def test_errors_in_their_order(self):
        for function in (whole_answer, lowest_whole):
            self.raises_wide(10, TooWide, function, Model(Book.free(names(10)), [FREE] * 10))
            self.raises_cell(MixedModel, 0, function, Model(OVER, [FREE] * 2, marks=[1]))
            self.raises_cell(MixedModel, 2, function, Model(HALVES, [FREE] * 3, marks=[0, 1]))
            self.raises_cell(NoEnd, 0, function, marked(OVER, [(0, None), FREE]))
            self.raises_cell(NoEnd, 1, function, marked(OVER, [(0, 1), (None, 1)]))
            # A sum that is not marked needs no end, and an answer need not be there.
            self.raises_cell(NoEnd, 1, function, Model(BOOK, [(5, 6), (None, 0), (None, 1)], marks=[0, 1]))
            self.assertEqual(self.raises(TooMany, function, marked(OVER, [(1, 1), (5, 5)])).many, 2501)
            self.assertIsNone(function(Model(BOOK, [(5, 6), (0, 0), (None, 1)], marks=[0, 1])))


if __name__ == "__main__":
    unittest.main()
