"""Points 14 to 17: models."""

import unittest

from fineststep.books import Book
from fineststep.errors import BadSize, EmptyRange, NoCell, NotWhole
from fineststep.models import (Model, is_answer, is_whole_answer, price_of, same_model, with_box, with_mark, with_price,
                               with_range)
from helpers import Case

BOOK = Book(["a", "b", "c"], [[1, 0, 1], [0, 1, 1]])
BOX = [(0, 2), (0, None), (1, (5, 2))]
PRICES = [1, (1, 2), 0]


def fields(model):
    """Returns the four fields."""
    return (model.book, model.box, model.prices, model.marks)


class Models(Case):
    def test_the_example(self):
        model = Model(BOOK, BOX, prices=PRICES)
        self.assertEqual([is_answer(model, [(1, 2), 2, (5, 2)]), is_answer(model, [0, 3, 3]),
                          price_of(model, [(1, 2), 2, (5, 2)])], [True, False, (3, 2)])

    def test_fields(self):
        model = Model(BOOK, BOX, prices=PRICES, marks=[1, 0, 1])
        self.assertIs(model.book, BOOK)
        self.assertEqual(model.box, ((0, 2), (0, None), (1, (5, 2))))
        self.assertEqual((model.prices, model.marks), ((1, (1, 2), 0), (0, 1)))
        for value in (model.box, model.prices, model.marks):
            self.assertIs(type(value), tuple)
        self.assertEqual(fields(Model(BOOK, tuple(BOX)))[2:], ((0, 0, 0), ()))
        self.assertEqual(fields(Model(BOOK, tuple(BOX), prices=tuple(PRICES), marks=(1,)))[2:], ((1, (1, 2), 0), (1,)))
        self.assertEqual(Model(BOOK, BOX, prices=None).prices, (0, 0, 0))

    def test_prices_and_marks_are_passed_by_name(self):
        with self.assertRaises(TypeError):
            Model(BOOK, BOX, PRICES)

    def test_marks_in_any_order_and_with_repeats(self):
        box = [(None, None)] * 3
        self.assertEqual(Model(BOOK, box, marks=[2, 0, 2, 0, 2]).marks, (0, 2))
        self.assertEqual(Model(BOOK, box, marks=(2, 1, 0)).marks, (0, 1, 2))
        self.assertEqual(Model(BOOK, box, marks=[]).marks, ())

    def test_a_passed_list_is_not_kept(self):
        box, prices, marks = list(BOX), list(PRICES), [1]
        model = Model(BOOK, box, prices=prices, marks=marks)
        box[0] = (5, 5)
        prices[0] = 9
        marks.append(0)
        self.assertEqual(fields(model), (BOOK, tuple(BOX), tuple(PRICES), (1,)))

    def test_each_error(self):
        for box in ([], BOX[:2], BOX + [(0, 0)]):
            self.raises(BadSize, Model, BOOK, box)
        self.raises_cell(EmptyRange, 1, Model, BOOK, [(0, 0), (1, 0), (2, 1)])
        self.raises_cell(EmptyRange, 2, Model, BOOK, [(0, 0), (None, 0), ((1, 2), (1, 3))])
        for prices in ([], [1, 2], [1, 2, 3, 4]):
            self.raises(BadSize, Model, BOOK, BOX, prices=prices)
        self.raises_cell(NoCell, 3, Model, BOOK, BOX, marks=[0, 3, -1])
        self.raises_cell(NoCell, -1, Model, BOOK, BOX, marks=[0, -1, 3])
        self.raises(NotWhole, Model, BOOK, BOX, marks=[2])
        self.raises(NotWhole, Model, BOOK, [((1, 2), None), (0, 0), (0, 0)], marks=[1, 0])
        self.raises(NotWhole, Model, BOOK, [(None, (1, 2)), (0, 0), (0, 0)], marks=(0,))

    def test_the_order_of_the_errors(self):
        self.raises(BadSize, Model, BOOK, [(1, 0)], prices=[], marks=[7])
        self.raises(EmptyRange, Model, BOOK, [(1, 0), (0, 1), (0, 1)], prices=[1], marks=[7])
        self.raises(BadSize, Model, BOOK, BOX, prices=[1], marks=[7])
        self.raises_cell(NoCell, 7, Model, BOOK, BOX, marks=[2, 7])

    def test_ranges_that_are_not_empty(self):
        box = [((1, 2), (1, 2)), (None, -5), (5, None)]
        self.assertEqual(Model(BOOK, box).box, tuple(box))

    def test_unmarked_cells_may_have_fractions(self):
        self.assertEqual(Model(BOOK, BOX, marks=[0, 1]).marks, (0, 1))
        self.assertEqual(Model(BOOK, [(None, None)] * 3, marks=[0, 1, 2]).marks, (0, 1, 2))


class Answers(Case):
    def test_is_answer(self):
        model = Model(BOOK, BOX)
        for numbers in ([0, 1, 1], [2, 0, 2], [(1, 2), (1, 2), 1], [0, (5, 2), (5, 2)]):
            self.assertIs(is_answer(model, numbers), True)
        for numbers in ([0, 0, 0], [0, 1, 2], [(5, 2), 0, (5, 2)], [-1, 2, 1], [0, 3, 3]):
            self.assertIs(is_answer(model, numbers), False)
        for numbers in ([], [0, 1], [0, 1, 1, 0]):
            self.raises(BadSize, is_answer, model, numbers)

    def test_is_whole_answer(self):
        model = Model(BOOK, BOX, marks=[1])
        self.assertIs(is_whole_answer(model, [0, 1, 1]), True)
        self.assertIs(is_whole_answer(model, [(1, 2), 1, (3, 2)]), True)
        self.assertIs(is_whole_answer(model, [(1, 2), (1, 2), 1]), False)
        self.assertIs(is_whole_answer(model, [0, 5, 5]), False)
        self.assertIs(is_whole_answer(model, [0, 1, 2]), False)
        self.assertIs(is_whole_answer(Model(BOOK, BOX), [(1, 2), (1, 2), 1]), True)
        for numbers in ([], [0, 1], [0, 1, 1, 0]):
            self.raises(BadSize, is_whole_answer, model, numbers)

    def test_price_of(self):
        model = Model(BOOK, BOX, prices=[-1, (1, 2), (1, 3)])
        self.assertEqual([price_of(model, [0, 0, 0]), price_of(model, [1, 1, 3]), price_of(model, [5, 0, 0])],
                         [0, (1, 2), -5])
        self.assertEqual(price_of(Model(BOOK, BOX), [7, (1, 2), 9]), 0)
        for numbers in ([], [0, 1], [0, 1, 1, 0]):
            self.raises(BadSize, price_of, model, numbers)

    def test_the_free_book_and_the_book_of_zeros(self):
        self.assertIs(is_answer(Model(Book.free(["a"]), [((1, 3), (1, 3))]), [(1, 3)]), True)
        self.assertIs(is_answer(Model(Book(["a"], []), [(0, 0)]), [0]), True)
        self.assertIs(is_answer(Model(Book(["a"], []), [(1, None)]), [0]), False)
        self.assertIs(is_answer(Model(Book(["a"], []), [(None, None)]), [1]), False)


class Changed(Case):
    def setUp(self):
        self.model = Model(BOOK, BOX, prices=PRICES, marks=[0])

    def test_same_model(self):
        self.assertIs(same_model(self.model, Model(BOOK, BOX, prices=PRICES, marks=[0])), True)
        again = Book(["a", "b", "c"], [[1, 1, 2], [0, 1, 1]])
        self.assertIs(same_model(self.model, Model(again, BOX, prices=PRICES, marks=[0])), True)
        for other in (Model(BOOK, BOX, prices=PRICES), Model(BOOK, BOX, marks=[0]),
                      Model(BOOK, [(0, 2), (0, None), (1, 2)], prices=PRICES, marks=[0]),
                      Model(Book(["a", "b", "d"], BOOK.frame), BOX, prices=PRICES, marks=[0]),
                      Model(Book.free(["a", "b", "c"]), BOX, prices=PRICES, marks=[0])):
            self.assertIs(same_model(self.model, other), False)
            self.assertIs(same_model(other, self.model), False)

    def test_with_box(self):
        box = [(None, 3), ((1, 2), (1, 2)), (0, None)]
        self.assertEqual(fields(with_box(self.model, box)), (BOOK, tuple(box), tuple(PRICES), (0,)))
        self.assertEqual(fields(with_box(self.model, tuple(box)))[1], tuple(box))
        self.raises(BadSize, with_box, self.model, [(1, 0)])
        self.raises_cell(EmptyRange, 1, with_box, self.model, [((1, 2), None), (1, 0), (1, 0)])
        self.raises(NotWhole, with_box, self.model, [((1, 2), None), (1, 1), (1, 1)])

    def test_with_range(self):
        self.assertEqual(fields(with_range(self.model, 1, None, (1, 2))),
                         (BOOK, ((0, 2), (None, (1, 2)), (1, (5, 2))), tuple(PRICES), (0,)))
        self.assertEqual(with_range(self.model, 0, 4, 4).box[0], (4, 4))
        for cell in (-1, 3, 99):
            self.raises_cell(NoCell, cell, with_range, self.model, cell, 1, 0)
        self.raises_cell(EmptyRange, 0, with_range, self.model, 0, (3, 2), 1)
        self.raises_cell(EmptyRange, 2, with_range, self.model, 2, 1, 0)
        self.raises(NotWhole, with_range, self.model, 0, (1, 2), 1)
        self.raises(NotWhole, with_range, self.model, 0, None, (1, 2))

    def test_with_price(self):
        self.assertEqual(fields(with_price(self.model, 2, (-1, 3))),
                         (BOOK, tuple(BOX), (1, (1, 2), (-1, 3)), (0,)))
        for cell in (-1, 3):
            self.raises_cell(NoCell, cell, with_price, self.model, cell, 1)

    def test_with_mark(self):
        self.assertEqual(fields(with_mark(self.model, 1, True)), (BOOK, tuple(BOX), tuple(PRICES), (0, 1)))
        self.assertEqual([with_mark(self.model, 0, True).marks, with_mark(self.model, 0, False).marks,
                          with_mark(self.model, 2, False).marks], [(0,), (), (0,)])
        for cell in (-1, 3):
            self.raises_cell(NoCell, cell, with_mark, self.model, cell, True)
            self.raises_cell(NoCell, cell, with_mark, self.model, cell, False)
        self.raises(NotWhole, with_mark, self.model, 2, True)

    def test_the_model_before_stays(self):
        before = fields(self.model)
        with_box(self.model, [(None, None)] * 3)
        with_range(self.model, 0, 5, 6)
        with_price(self.model, 0, 5)
        with_mark(self.model, 0, False)
        with_mark(self.model, 1, True)
        self.raises(NotWhole, with_mark, self.model, 2, True)
        self.raises(EmptyRange, with_range, self.model, 1, 1, 0)
        self.assertEqual(fields(self.model), before)


if __name__ == "__main__":
    unittest.main()
