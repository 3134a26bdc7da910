"""Points 54, 55 and 56: bounds that clash, and repairs."""

import itertools
import random
import unittest

from fineststep.books import Book
from fineststep.clashes import clash_row, least_clashes, only_bounds, repairs
from fineststep.errors import BadClash, BadSide, NoCell, NoEnd, TooMany, TooWide
from fineststep.exact import plus
from fineststep.models import Model, same_model
from helpers import Case, names, random_number, random_rows, sample_models, slow_signed_prices, wide_books
from slow import slow_has, slow_worth

BOOK = Book(["a", "b", "c"], [[1, 0, 1], [0, 1, 1]])
FREE = (None, None)
MODEL = Model(BOOK, [(0, 2), (0, 1), (5, 6)])
ONLY_ZEROS = Model(Book(names(3), []), [(1, 2), (-2, -1), (0, 5)])


def tight_models(many, seed):
    """Returns models of small books with short ranges, so that many of them have several clashes."""
    rng = random.Random(seed)
    models = []
    for _ in range(many):
        size = rng.randint(2, 4)
        book = Book(names(size), random_rows(rng, rng.randint(0, 2), size, most=2))
        lows = [random_number(rng) for _ in range(size)]
        models.append(Model(book, [rng.choice([(low, plus(low, 1)), (low, low), (low, None), (None, low)]) for low in lows]))
    return models


def bounds_of(model):
    """Returns all bounds of the model."""
    return [(cell, side) for cell, ends in enumerate(model.box) for side, end in zip(("low", "high"), ends) if end is not None]


def boxed(model, bounds):
    """Returns the box with these bounds only."""
    return [tuple(end if (cell, side) in bounds else None for side, end in zip(("low", "high"), ends))
            for cell, ends in enumerate(model.box)]


def slow_clashes(model):
    """Returns the least clashes in any order, found by looking at all lists of bounds."""
    bounds, found = bounds_of(model), []
    for many in range(1, len(bounds) + 1):
        for chosen in itertools.combinations(bounds, many):
            if not any(set(known) <= set(chosen) for known in found) and not slow_has(model.book, boxed(model, chosen)):
                found.append(chosen)
    return [sorted(chosen) for chosen in found]


def slow_repairs(model):
    """Returns the least repairs in order, found by looking at all lists of bounds."""
    bounds, found = sorted(bounds_of(model)), []
    for many in range(len(bounds) + 1):
        for chosen in itertools.combinations(bounds, many):
            others = [bound for bound in bounds if bound not in chosen]
            if not any(set(known) <= set(chosen) for known in found) and slow_has(model.book, boxed(model, others)):
                found.append(list(chosen))
    return found


class Clashes(Case):
    def test_the_example(self):
        self.assertEqual(least_clashes(MODEL), [[(0, "high"), (1, "high"), (2, "low")]])

    def test_no_clash(self):
        self.assertEqual(least_clashes(Model(BOOK, [(0, 2), (0, 1), (3, 6)])), [])
        self.assertEqual(least_clashes(Model(BOOK, [FREE] * 3)), [])

    def test_several_clashes_in_the_order_of_their_rows(self):
        self.assertEqual(least_clashes(ONLY_ZEROS), [[(0, "low")], [(1, "high")]])
        book = Book(names(4), [[1, 0, 1, 1], [0, 1, 1, -1]])
        model = Model(book, [(0, 1), (0, 1), (3, 4), (2, 5)])
        self.assertEqual(least_clashes(model), [[(0, "high"), (1, "high"), (2, "low")], [(0, "high"), (1, "low"), (3, "low")],
                                                [(0, "high"), (2, "low"), (3, "low")]])

    def test_all_signed_price_turnings(self):
        for model in sample_models(6, 60, seed=41):
            expected = []
            for row in slow_signed_prices(model.book):
                worth = slow_worth(row, model.box)
                if worth is not None and worth < 0:
                    expected.append([(cell, "high" if x > 0 else "low") for cell, x in enumerate(row) if x != 0])
            self.assertEqual(least_clashes(model), expected)

    def test_they_are_least_and_all(self):
        several = 0
        for model in tight_models(60, 42):
            found = least_clashes(model)
            self.assertEqual(sorted(found), sorted(slow_clashes(model)))
            for clash in found:
                self.assertEqual(clash, sorted(clash))
                for k in range(len(clash)):
                    self.assertTrue(slow_has(model.book, boxed(model, clash[:k] + clash[k + 1:])))
            several += len(found) > 1
        self.assertGreater(several, 8)


class Rows(Case):
    def test_any_order_and_duplicates(self):
        clash = [(0, "high"), (1, "high"), (2, "low")]
        for chosen in itertools.permutations(clash):
            self.assertEqual(clash_row(MODEL, list(chosen)), [1, 1, -1])
            self.assertEqual(clash_row(MODEL, list(chosen) + [chosen[1], chosen[0]]), [1, 1, -1])
        self.assertEqual(clash_row(ONLY_ZEROS, [(1, "high")]), [0, 1, 0])
        self.assertEqual(clash_row(ONLY_ZEROS, [(0, "low"), (0, "low")]), [-1, 0, 0])

    def test_rows_of_all_least_clashes(self):
        for model in sample_models(6, 60, seed=43):
            bars = [row for row in slow_signed_prices(model.book)
                    if slow_worth(row, model.box) is not None and slow_worth(row, model.box) < 0]
            for clash, row in zip(least_clashes(model), bars):
                self.assertEqual(clash_row(model, clash[::-1] + clash), row)

    def test_what_is_no_least_clash(self):
        for clash in ([], [(0, "high")], [(0, "high"), (1, "high")], [(0, "high"), (1, "high"), (2, "low"), (2, "high")],
                      [(0, "low"), (1, "high"), (2, "low")], [(0, "high"), (1, "high"), (2, "low"), (0, "low")]):
            self.raises(BadClash, clash_row, MODEL, clash)
        self.raises(BadClash, clash_row, ONLY_ZEROS, [(0, "low"), (1, "high")])
        free = Model(BOOK, [FREE] * 3)
        self.raises(BadClash, clash_row, free, [])
        # Bounds that are none of the model are no error of their own here.
        self.raises(BadClash, clash_row, free, [(0, "low")])
        self.raises(BadClash, clash_row, Model(BOOK, [(None, 2), (0, 1), (5, 6)]), [(0, "low"), (2, "high")])

    def test_errors_bound_by_bound(self):
        self.raises_cell(NoCell, 3, clash_row, MODEL, [(0, "high"), (3, "middle"), (0, "middle")])
        self.raises_cell(NoCell, -1, clash_row, MODEL, [(-1, "low")])
        self.raises(BadSide, clash_row, MODEL, [(0, "up"), (3, "low")])
        self.raises(BadSide, clash_row, MODEL, [(0, "High")])
        self.raises(BadSide, clash_row, MODEL, [(0, "high"), (1, "")])


class Chosen(Case):
    def test_only_some_bounds(self):
        model = Model(BOOK, [(0, 2), (None, 1), (5, 6)], prices=[1, 2, (1, 2)], marks=[0, 2])
        left = only_bounds(model, [(2, "low"), (0, "high"), (2, "low")])
        self.assertTrue(same_model(left, Model(BOOK, [(None, 2), FREE, (5, None)], prices=[1, 2, (1, 2)], marks=[0, 2])))
        self.assertTrue(same_model(only_bounds(model, []), Model(BOOK, [FREE] * 3, prices=[1, 2, (1, 2)], marks=[0, 2])))
        every = [(2, "high"), (0, "low"), (0, "high"), (1, "high"), (2, "low")]
        self.assertTrue(same_model(only_bounds(model, every), model))
        self.assertEqual(model.box, ((0, 2), (None, 1), (5, 6)))

    def test_wide_books(self):
        book = Book.free(names(16))
        self.assertEqual(only_bounds(Model(book, [(0, 1)] * 16), [(15, "low")]).box, (FREE,) * 15 + ((0, None),))

    def test_errors_bound_by_bound(self):
        model = Model(BOOK, [(None, 2), (0, None), FREE])
        self.raises_cell(NoEnd, 0, only_bounds, model, [(0, "low"), (5, "low")])
        self.raises_cell(NoEnd, 1, only_bounds, model, [(0, "high"), (1, "high"), (0, "x")])
        self.raises_cell(NoEnd, 2, only_bounds, model, [(2, "low")])
        self.raises_cell(NoCell, 3, only_bounds, model, [(0, "high"), (3, "x"), (2, "low")])
        self.raises_cell(NoCell, -1, only_bounds, model, [(-1, "low")])
        self.raises(BadSide, only_bounds, model, [(2, "x"), (2, "low")])

    def test_least_clashes_of_only_some_bounds(self):
        for model in sample_models(5, 40, seed=44):
            for clash in least_clashes(model):
                self.assertEqual(least_clashes(only_bounds(model, clash)), [clash])
                self.assertEqual(least_clashes(only_bounds(model, clash[1:])), [])


class Repairs(Case):
    def test_the_example(self):
        self.assertEqual(repairs(MODEL), [[(0, "high")], [(1, "high")], [(2, "low")]])

    def test_the_empty_list_as_the_only_repair(self):
        self.assertEqual(repairs(Model(BOOK, [FREE] * 3)), [[]])
        self.assertEqual(repairs(Model(BOOK, [(0, 2), (0, 1), (3, 6)])), [[]])

    def test_the_order(self):
        book = Book(names(3), [[1, 1, 0], [0, 0, 1]])
        model = Model(book, [(2, 3), (0, 1), (0, 1)])
        self.assertEqual(repairs(model), [[(0, "low")], [(1, "high")]])
        self.assertEqual(repairs(ONLY_ZEROS), [[(0, "low"), (1, "high")]])
        book = Book(names(2), [[1, 1]])
        self.assertEqual(repairs(Model(book, [(0, 0), (1, 1)])), [[(0, "high")], [(1, "low")]])
        # The high end of a cell comes before its low end.
        model = Model(Book(names(3), [[1, 1, 1]]), [(3, 3), (0, 1), (5, 6)])
        self.assertEqual(least_clashes(model), [[(0, "low"), (1, "high")], [(0, "high"), (2, "low")], [(1, "high"), (2, "low")]])
        self.assertEqual(repairs(model), [[(0, "high"), (1, "high")], [(0, "low"), (2, "low")], [(1, "high"), (2, "low")]])

    def test_all_lists_of_bounds(self):
        sizes = set()
        for model in tight_models(60, 45) + sample_models(4, 30, seed=45):
            found = repairs(model)
            self.assertEqual(found, slow_repairs(model))
            sizes |= {len(repair) for repair in found}
        self.assertGreaterEqual(sizes, {0, 1, 2})

    def test_one_bound_against_many(self):
        # All cells are equal, one is at least 1, the others at most 0.
        for many in (2, 5, 9):
            model = Model(Book(names(many), [[1] * many]), [(1, None)] + [(None, 0)] * (many - 1))
            self.assertEqual(repairs(model), [[(0, "low")], [(cell, "high") for cell in range(1, many)]])

    def test_exactly_10_and_11_bounds(self):
        # Equal cells that are fixed at 0, 1, ..: each end but the least low and the greatest high one is in a clash.
        for equal, zeros in ((5, 0), (5, 1), (6, 0)):
            book = Book(names(equal + zeros), [[1] * equal + [0] * zeros])
            model = Model(book, [(k, k) for k in range(equal)] + [(1, 1)] * zeros)
            self.assertEqual(len({bound for clash in least_clashes(model) for bound in clash}), 2 * equal - 2 + zeros)
            self.assertEqual(repairs(model), slow_repairs(model))
        for equal, zeros, many in ((6, 1, 11), (7, 0, 12), (9, 0, 16)):
            book = Book(names(equal + zeros), [[1] * equal + [0] * zeros])
            model = Model(book, [(k, k) for k in range(equal)] + [(1, 1)] * zeros)
            self.assertEqual(self.raises(TooMany, repairs, model).many, many)

    def test_bounds_beside_the_clashes_do_not_count(self):
        book = Book(names(9), [[1] * 6 + [0] * 3, [0] * 6 + [1, 0, 0], [0] * 7 + [1, 0], [0] * 8 + [1]])
        model = Model(book, [(k, k) for k in range(6)] + [(0, 1)] * 3)
        found = repairs(model)
        self.assertEqual(found[0], [(0, "high"), (1, "high"), (2, "high"), (3, "high"), (4, "high")])
        self.assertEqual(len(found), 6)

    def test_too_wide(self):
        for book in wide_books():
            model = Model(book, [(1, 2)] * book.size)
            self.raises_wide(book.size, TooWide, least_clashes, model)
            self.raises_wide(book.size, TooWide, repairs, model)
            self.raises_wide(book.size, TooWide, clash_row, model, [(-1, "x")])


if __name__ == "__main__":
    unittest.main()
