"""Points 64, 65, 66 and 74: stands."""

import itertools
import unittest
from fractions import Fraction

from fineststep.bases import bases
from fineststep.books import Book, pivots
from fineststep.errors import BadSize, BadStand, NotBasis
from fineststep.models import Model
from fineststep.stands import first_stand, fitted_stand, is_priced, reduced_prices, stand_table, stand_turnings
from fineststep.turnings import is_turning
from engine import has, stands_of
from helpers import Case, fractions, names, numbers_of, sample_models
from slow import slow_table, slow_unit

BOOK = Book(["a", "b", "c"], [[1, 0, 1], [0, 1, 1]])
FREE = (None, None)
MODEL = Model(BOOK, [(0, 2), (None, 5), FREE], prices=[1, -2, (1, 2)])
NONE_OF_THE_MODEL = [
    ((0, 3), ("low", "high")), ((-1, 0), ("low", "low")), ((-1, 1), ("low", "high")), ((0, 9), ("low", "zero")),
    ((1, 0), ("high", "low")), ((0, 0), ("low", "low")), ((2, 1), ("zero", "high")),
    ((0,), ("low",)), ((), ()), ((0, 1, 2), ("low", "high", "zero")),
    ((0, 1), ("low",)), ((0, 1), ("low", "high", "zero")), ((0, 1), ()),
    ((0, 1), ("zero", "high")), ((0, 1), ("low", "low")), ((0, 1), ("low", "zero")), ((0, 2), ("low", "low")),
    ((0, 2), ("low", "high")), ((0, 1), ("low", "High")), ((0, 1), ("", "high")), ((0, 1), ("low", "up")),
]


def slow_reduced(model, basis):
    """Returns the reduced prices as Fractions."""
    found = [Fraction(0)] * model.book.size
    for cell in basis:
        found[cell] = sum(x * y for x, y in zip(slow_unit(model.book, basis, cell), fractions(model.prices)))
    return found


class First(Case):
    def test_each_word(self):
        self.assertEqual(first_stand(MODEL), ((0, 1), ("low", "high")))
        self.assertEqual(first_stand(Model(BOOK, [FREE, (1, None), FREE])), ((0, 1), ("zero", "low")))
        self.assertEqual(first_stand(Model(BOOK, [(0, 0), (1, 2), (5, 5)])), ((0, 1), ("low", "low")))
        self.assertEqual(first_stand(Model(Book(["a", "b"], []), [FREE] * 2)), ((), ()))
        self.assertEqual(first_stand(Model(Book(["a", "b"], [[0, 1]]), [(0, 1), (None, 1)])), ((1,), ("high",)))

    def test_kinds_of_values(self):
        basis, words = first_stand(MODEL)
        self.assertEqual([type(basis), type(words), type(first_stand(MODEL))], [tuple] * 3)

    def test_many_models(self):
        for model in sample_models(6, 40, seed=64):
            basis, words = first_stand(model)
            self.assertEqual(list(basis), pivots(model.book))
            for cell, word in zip(basis, words):
                low, high = model.box[cell]
                self.assertEqual(word, "low" if low is not None else "high" if high is not None else "zero")

    def test_wide_books(self):
        model = Model(Book.free(names(16)), [(0, None)] * 8 + [FREE] * 8)
        self.assertEqual(first_stand(model), (tuple(range(16)), ("low",) * 8 + ("zero",) * 8))


class Fitted(Case):
    def test_words_that_are_kept(self):
        self.assertEqual(fitted_stand(MODEL, (0, 1), ["high", "high"]), ((0, 1), ("high", "high")))
        self.assertEqual(fitted_stand(MODEL, (0, 2), ("low", "zero")), ((0, 2), ("low", "zero")))

    def test_words_that_are_replaced(self):
        self.assertEqual(fitted_stand(MODEL, (0, 1), ["zero", "zero"]), ((0, 1), ("low", "high")))
        self.assertEqual(fitted_stand(MODEL, (0, 1), ["low", "low"]), ((0, 1), ("low", "high")))
        self.assertEqual(fitted_stand(MODEL, (1, 2), ("low", "high")), ((1, 2), ("high", "zero")))
        model = Model(BOOK, [(1, None), (1, 1), FREE])
        self.assertEqual(fitted_stand(model, (0, 1), ("high", "zero")), ((0, 1), ("low", "low")))
        self.assertEqual(fitted_stand(model, (0, 1), ("high", "high")), ((0, 1), ("low", "high")))

    def test_kinds_of_values(self):
        basis, words = fitted_stand(MODEL, (0, 1), ["high", "high"])
        self.assertEqual([type(basis), type(words)], [tuple, tuple])
        self.assertEqual(fitted_stand(Model(Book(["a"], []), [FREE]), (), []), ((), ()))

    def test_all_words(self):
        for model in sample_models(4, 30, seed=65):
            for basis in bases(model.book):
                for words in itertools.product(("low", "high", "zero"), repeat=len(basis)):
                    fitted = fitted_stand(model, tuple(basis), list(words))
                    self.assertEqual(fitted[0], tuple(basis))
                    for cell, word, found in zip(basis, words, fitted[1]):
                        known = has(model.box[cell])
                        self.assertEqual(found, word if word in known else "low" if "low" in known else known[0])
                    stand_table(model, fitted)

    def test_errors_in_their_order(self):
        for basis in ((0, 3), (-1, 0), (1, 0), (0, 0), (0,), (), (0, 1, 2), (0, 16)):
            self.raises(NotBasis, fitted_stand, MODEL, basis, ["low", "x"])
            self.raises(NotBasis, fitted_stand, MODEL, basis, [])
        for words in ([], ["x"], ["low"], ["x", "y", "z"], ("low", "low", "low")):
            self.raises(BadSize, fitted_stand, MODEL, (0, 1), words)
        for words in (["low", "x"], ["", "low"], ["Low", "low"], ["low", "none"]):
            self.raises(BadStand, fitted_stand, MODEL, (0, 1), words)


class Tables(Case):
    def test_each_word(self):
        self.assertEqual(stand_table(MODEL, ((0, 1), ("low", "high"))), [0, 5, 5])
        self.assertEqual(stand_table(MODEL, ((0, 1), ("high", "high"))), [2, 5, 7])
        self.assertEqual(stand_table(MODEL, ((0, 2), ("high", "zero"))), [2, -2, 0])
        self.assertEqual(stand_table(Model(Book(["a"], []), [(1, 2)]), ((), ())), [0])

    def test_numbers_may_be_out_of_their_ranges(self):
        model = Model(BOOK, [(0, 1), (0, 1), (5, 6)])
        self.assertEqual(stand_table(model, ((0, 1), ("high", "low"))), [1, 0, 1])

    def test_many_models(self):
        for model in sample_models(5, 40, seed=66):
            for basis, words in stands_of(model):
                ends = [0 if word == "zero" else model.box[cell][word == "high"] for cell, word in zip(basis, words)]
                found = stand_table(model, (basis, words))
                self.assert_numbers(found)
                self.assertEqual(fractions(found), slow_table(model.book, basis, ends))


class Turnings(Case):
    def test_signs(self):
        self.assertEqual(stand_turnings(MODEL, ((0, 1), ("low", "high"))), [[1, 0, 1], [0, 1, 1]])
        self.assertEqual(stand_turnings(MODEL, ((0, 2), ("low", "zero"))), [[1, -1, 0], [0, 1, 1]])
        self.assertEqual(stand_turnings(MODEL, ((1, 2), ("high", "zero"))), [[-1, 1, 0], [1, 0, 1]])
        self.assertEqual(stand_turnings(Model(Book(["a"], []), [FREE]), ((), ())), [])

    def test_many_models(self):
        negatives = 0
        for model in sample_models(6, 40, seed=67):
            for basis, words in stands_of(model)[:40]:
                found = stand_turnings(model, (basis, words))
                self.assertEqual(len(found), len(basis))
                for cell, row in zip(basis, found):
                    self.assertIs(type(row), list)
                    self.assertIs(is_turning(model.book, row), True)
                    self.assertGreater(row[cell], 0)
                    self.assertEqual([row[k] for k in basis if k != cell], [0] * (len(basis) - 1))
                    negatives += next(x for x in row if x != 0) < 0
        self.assertGreater(negatives, 20)


class Reduced(Case):
    def test_prices(self):
        self.assertEqual(reduced_prices(MODEL, ((0, 1), ("low", "high"))), [(3, 2), (-3, 2), 0])
        self.assertEqual(reduced_prices(MODEL, ((1, 2), ("high", "zero"))), [0, -3, (3, 2)])
        self.assertEqual(reduced_prices(Model(Book(["a"], []), [FREE], prices=[5]), ((), ())), [0])

    def test_many_models(self):
        for model in sample_models(6, 40, seed=68):
            for basis, words in stands_of(model)[:40]:
                found = reduced_prices(model, (basis, words))
                self.assertEqual(found, numbers_of(slow_reduced(model, basis)))
                self.assertEqual([found[cell] for cell in range(model.book.size) if cell not in basis],
                                 [0] * (model.book.size - len(basis)))


class Priced(Case):
    def test_each_word(self):
        free = Book.free(["a"])
        for ends, words in (((0, 1), {"low": (False, True, True), "high": (True, True, False)}),
                            ((0, None), {"low": (False, True, True)}), ((None, 1), {"high": (True, True, False)}),
                            (FREE, {"zero": (False, True, False)}), ((1, 1), {"low": (True,) * 3, "high": (True,) * 3})):
            for word, expected in words.items():
                for price, priced in zip((-1, 0, (1, 2)), expected):
                    self.assertIs(is_priced(Model(free, [ends], prices=[price]), ((0,), (word,))), priced)

    def test_the_table_need_not_be_an_answer(self):
        model = Model(BOOK, [(0, 2), (0, 1), (5, 6)], prices=[1, 0, 0])
        self.assertIs(is_priced(model, ((0, 1), ("low", "low"))), True)
        self.assertIs(is_priced(model, ((0, 1), ("high", "low"))), False)
        self.assertIs(is_priced(Model(Book(["a"], []), [(1, 2)], prices=[7]), ((), ())), True)

    def test_many_models(self):
        counts = {True: 0, False: 0}
        for model in sample_models(5, 60, seed=69):
            for basis, words in stands_of(model)[:60]:
                reduced = slow_reduced(model, basis)
                expected = True
                for cell, word in zip(basis, words):
                    low, high = model.box[cell]
                    if low is None or low != high:
                        expected = expected and not (reduced[cell] < 0 and word in ("low", "zero"))
                        expected = expected and not (reduced[cell] > 0 and word in ("high", "zero"))
                self.assertIs(is_priced(model, (basis, words)), expected)
                counts[expected] += 1
        self.assertGreater(min(counts.values()), 50)


class Refused(Case):
    def test_stands_that_are_none_of_the_model(self):
        for stand in NONE_OF_THE_MODEL:
            for function in (stand_table, stand_turnings, reduced_prices, is_priced):
                with self.subTest(stand=stand, function=function):
                    self.raises(BadStand, function, MODEL, stand)

    def test_all_short_stands(self):
        good = stands_of(MODEL)
        self.assertEqual(len(good), 5)
        for many in range(4):
            for basis in itertools.product(range(-1, 4), repeat=many):
                for words in itertools.product(("low", "high", "zero"), repeat=min(many, 2)):
                    if (basis, words) in good:
                        stand_table(MODEL, (basis, words))
                    else:
                        self.raises(BadStand, stand_table, MODEL, (basis, words))


if __name__ == "__main__":
    unittest.main()
