"""Points 87 and 88: the room of a price and the room of an end."""

import random
import unittest
from fractions import Fraction

from engine import stands_of
from fineststep.books import Book
from fineststep.errors import BadSize, BadStand, NoCell, NotAnswer, NotBest, NotTable, TooWide
from fineststep.models import Model, is_answer, with_price
from fineststep.picks import pick_answer
from fineststep.rooms import end_room, price_room
from fineststep.running import solve
from fineststep.stands import is_priced, stand_table
from helpers import Case, engine_models, fraction, fractions, names, number_of, numbers_of, roomy_models, wide_books
from slow import slow_has, slow_span, slow_table, slow_within

BOOK = Book(["a", "b", "c"], [[1, 0, 1], [0, 1, 1]])
FREE = (None, None)


def is_best(model, answer):
    """Returns True if the answer is best."""
    price = sum(x * y for x, y in zip(fractions(answer), fractions(model.prices)))
    return slow_span(model.book, model.box, model.prices)[0] == price


def around(ends):
    """Returns numbers in the range, among them its ends, and numbers outside."""
    low, high = [None if end is None else fraction(end) for end in ends]
    middle = (low if high is None else high if low is None else (low + high) / 2) or Fraction(0)
    inside = [middle] + [end for end in (low, high) if end is not None]
    inside += [middle - 10 ** 6] if low is None else []
    inside += [middle + 10 ** 6] if high is None else []
    outside = [low - Fraction(1, 10 ** 6)] if low is not None else []
    outside += [high + Fraction(1, 10 ** 6)] if high is not None else []
    return numbers_of(inside), numbers_of(outside)


class PriceRoom(Case):
    def test_both_ends(self):
        model = Model(BOOK, [(0, 2), (0, None), (1, (5, 2))], prices=[1, (1, 2), 0])
        self.assertEqual([price_room(model, [0, 1, 1], cell) for cell in range(3)],
                         [((1, 2), None), (0, 1), ((-1, 2), None)])

    def test_no_end(self):
        self.assertEqual(price_room(Model(Book.free(["a"]), [(1, 1)], prices=[5]), [1], 0), FREE)
        self.assertEqual(price_room(Model(Book(["a"], []), [FREE], prices=[5]), [0], 0), FREE)
        self.assertEqual(price_room(Model(BOOK, [(0, 2), (0, 1), (3, 6)], prices=[1, -2, 7]), [2, 1, 3], 1), FREE)

    def test_one_number(self):
        self.assertEqual(price_room(Model(BOOK, [FREE] * 3), [1, 2, 3], 0), (0, 0))
        self.assertEqual(price_room(Model(BOOK, [(0, 2), (0, 2), FREE], prices=[(1, 2), 0, (-1, 2)]), [1, 2, 3], 0), ((1, 2), (1, 2)))

    def test_an_end_of_the_range(self):
        model = Model(Book.free(["a"]), [(0, 2)], prices=[3])
        self.assertEqual(price_room(model, [0], 0), (0, None))
        self.assertEqual(price_room(with_price(model, 0, -1), [2], 0), (None, 0))
        self.assertEqual(price_room(with_price(model, 0, 0), [1], 0), (0, 0))

    def test_many_models(self):
        tried = {"low": 0, "high": 0, "none": 0, "number": 0}
        rng = random.Random(141)
        for model in roomy_models(60, 141) + engine_models(6, 40, seed=141):
            end = solve(model)
            if end.kind != "best" or len(model.book.frame) > 4:
                continue
            answer = list(end.table)
            cell = rng.randrange(model.book.size)
            room = price_room(model, answer, cell)
            self.assertIs(type(room), tuple)
            inside, outside = around(room)
            for price in inside:
                self.assertTrue(is_best(with_price(model, cell, price), answer))
            for price in outside:
                self.assertFalse(is_best(with_price(model, cell, price), answer))
            low, high = room
            tried["none" if room == FREE else "high" if low is None else "low" if high is None else "number"] += 1
        self.assertGreater(min(tried.values()), 3, tried)

    def test_errors_in_their_order(self):
        model = Model(BOOK, [(0, 2), (0, None), (1, (5, 2))], prices=[1, (1, 2), 0])
        for answer in ([], [0, 1], [0] * 4):
            self.raises(BadSize, price_room, model, answer, 7)
        self.raises(NotTable, price_room, model, [0, 1, 2], 7)
        self.raises(NotAnswer, price_room, model, [0, 0, 0], 7)
        for cell in (-1, 3):
            self.raises_cell(NoCell, cell, price_room, model, [0, 2, 2], cell)
        self.raises(NotBest, price_room, model, [0, 2, 2], 0)
        self.raises(NotBest, price_room, model, [1, 0, 1], 2)
        self.raises(NotBest, price_room, Model(BOOK, [FREE] * 3, prices=[1, 0, 0]), [0, 0, 0], 0)
        for book in wide_books():
            self.raises_wide(book.size, TooWide, price_room, Model(book, [(1, 2)] * book.size), [], -1)

    def test_answers_that_are_not_best(self):
        counts = {True: 0, False: 0}
        rng = random.Random(142)
        for model in roomy_models(60, 142):
            if slow_has(model.book, model.box):
                answer = pick_answer(model, toward=[rng.choice([-9, 0, 9]) for _ in model.box])
                best = is_best(model, answer)
                counts[best] += 1
                if best:
                    low, high = price_room(model, answer, 0)
                    self.assertTrue(low is None or fraction(low) <= fraction(model.prices[0]))
                    self.assertTrue(high is None or fraction(model.prices[0]) <= fraction(high))
                else:
                    self.raises(NotBest, price_room, model, answer, 0)
        self.assertGreater(min(counts.values()), 5)


class EndRoom(Case):
    def test_both_ends(self):
        model = Model(BOOK, [(0, 2), (0, None), (1, (5, 2))], prices=[1, (1, 2), 0])
        stand = ((0, 2), ("low", "low"))
        # With v at a, b is 1 - v; with v at c, b is v.
        self.assertEqual([end_room(model, stand, cell) for cell in (0, 2)], [(None, 1), (0, None)])
        model = Model(BOOK, [(0, 2), (0, 1), (1, (5, 2))], prices=[1, (1, 2), 0])
        self.assertEqual([end_room(model, stand, cell) for cell in (0, 2)], [(0, 1), (0, 1)])

    def test_no_end(self):
        self.assertEqual(end_room(Model(Book.free(["a"]), [(0, 2)], prices=[1]), ((0,), ("low",)), 0), FREE)
        self.assertEqual(end_room(Model(BOOK, [(0, 2), (0, 2), FREE]), ((0, 1), ("low", "high")), 1), FREE)
        # The cell does not move any cell outside the basis.
        book = Book(names(3), [[1, 0, 0], [0, 1, 1]])
        self.assertEqual(end_room(Model(book, [(0, 2), (0, 2), (0, 1)]), ((0, 1), ("high", "low")), 0), FREE)

    def test_one_number(self):
        model = Model(BOOK, [(0, 2), (0, 2), (2, 2)])
        self.assertEqual(end_room(model, ((0, 1), ("high", "low")), 0), (2, 2))
        self.assertEqual(end_room(model, ((0, 1), ("high", "low")), 1), (0, 0))

    def test_the_range_of_the_cell_does_not_count(self):
        model = Model(BOOK, [(0, 1), (0, 1), (-7, 9)])
        self.assertEqual(end_room(model, ((0, 1), ("low", "high")), 0), (-8, 8))
        model = Model(BOOK, [(1, 1), (0, 1), (-7, 9)])
        self.assertEqual(end_room(model, ((0, 1), ("low", "low")), 0), (-7, 9))

    def test_several_cells_outside_the_basis(self):
        book = Book(names(4), [[2, 1, -1, 4]])
        model = Model(book, [(0, 9), (-1, 4), (-3, 1), (None, 16)], prices=[1, 0, 0, 0])
        self.assertEqual(end_room(model, ((0,), ("low",)), 0), (-2, 6))
        model = Model(book, [(0, 9), (-1, 4), (None, 1), (None, 14)], prices=[1, 0, 0, 0])
        self.assertEqual(end_room(model, ((0,), ("low",)), 0), (-2, 7))

    def test_many_models(self):
        tried = {"low": 0, "high": 0, "none": 0, "both": 0}
        for model in roomy_models(60, 143) + engine_models(6, 60, seed=143):
            for stand in stands_of(model)[:25]:
                table = stand_table(model, stand)
                if not is_priced(model, stand) or not is_answer(model, table):
                    continue
                for cell in stand[0]:
                    room = end_room(model, stand, cell)
                    self.assertIs(type(room), tuple)
                    inside, outside = around(room)
                    for expected, values in ((True, inside), (False, outside)):
                        for value in values:
                            values_there = [value if k == cell else table[k] for k in stand[0]]
                            moved = numbers_of(slow_table(model.book, stand[0], values_there))
                            others = [k for k in range(model.book.size) if k not in stand[0]]
                            self.assertIs(slow_within([moved[k] for k in others], [model.box[k] for k in others]), expected)
                    low, high = room
                    tried["none" if room == FREE else "high" if low is None else "low" if high is None else "both"] += 1
        self.assertGreater(min(tried.values()), 5, tried)

    def test_errors_in_their_order(self):
        model = Model(BOOK, [(0, 2), (0, None), (1, (5, 2))], prices=[1, (1, 2), 0])
        for stand in (((0, 3), ("low", "low")), ((2, 0), ("low", "low")), ((0,), ("low",)), ((0, 1), ("low", "high")),
                      ((0, 2), ("low", "zero")), ((0, 2), ("low",))):
            self.raises(BadStand, end_room, model, stand, -1)
        for cell in (1, -1, 3):
            self.raises_cell(NoCell, cell, end_room, model, ((0, 2), ("high", "high")), cell)
        self.raises(NotBest, end_room, model, ((0, 2), ("high", "low")), 0)
        # A priced stand whose table is no answer, and an answer whose stand is not priced.
        self.raises(NotBest, end_room, model, ((0, 1), ("low", "low")), 1)
        self.assertTrue(is_priced(model, ((0, 1), ("low", "low"))))
        self.raises(NotBest, end_room, model, ((0, 2), ("low", "high")), 2)

    def test_wide_books(self):
        model = Model(Book(names(16), [[1] * 16]), [(0, 1)] * 15 + [(-3, number_of(Fraction(7, 2)))])
        self.assertEqual(end_room(model, ((0,), ("low",)), 0), (0, 1))


if __name__ == "__main__":
    unittest.main()
