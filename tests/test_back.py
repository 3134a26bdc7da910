"""Points 110 to 112: lists of the last model are led back over reduction steps."""

import random
import unittest
from fractions import Fraction

from fineststep.ahead import ahead, left_after
from fineststep.back import models_along, reduced_back, row_back, table_back, turning_back
from fineststep.books import Book, is_table
from fineststep.certificates import shows_best, shows_none, shows_unbounded
from fineststep.errors import BadAhead, BadSize, NotTable
from fineststep.models import Model, is_answer, is_whole_answer, price_of, same_model
from fineststep.running import solve
from fineststep.sides import is_price
from fineststep.turnings import is_turning, turnings
from helpers import Case, fractions, kernel, names, numbers_of, random_number, random_table
from reducing import all_steps, loose_models, slow_holds

FREE = (None, None)
BOOK = Book(["a", "b", "c"], [[1, 0, 1], [0, 1, 1]])
MODEL = Model(BOOK, [FREE, (0, 2), (0, 0)], prices=[0, 1, 5])


def random_steps(rng, model, most=6):
    """Returns steps of any kind, each of which may be done with what the one before leaves."""
    steps = []
    for _ in range(most):
        found = [step for step in all_steps(model) if slow_holds(model, step)]
        if not found:
            break
        word = rng.choice(sorted({step[0] for step in found}))
        step = rng.choice([step for step in found if step[0] == word])
        steps.append(step)
        model = left_after(model, step)
    return steps


def number_put_in(model, numbers, cell, is_right):
    """Returns the number with which the list is right at the cell, 0 if it is so with every number.

    Whether a list is right is linear, and it is right with one number or with all.
    """
    right = [is_right(numbers[:cell] + [x] + numbers[cell:]) for x in (0, 1, 2)]
    if all(right):
        return 0
    tops = range(-60, 61)
    return next(x for x in numbers_of([Fraction(top, bottom) for bottom in (1, 2, 3, 4, 5, 6, 8, 9, 12, 16, 18, 24, 36) for top in tops])
                if is_right(numbers[:cell] + [x] + numbers[cell:]))


class ModelsAlong(Case):
    def test_the_model_alone_and_the_models_before_and_after_each_step(self):
        self.assertEqual(len(list(models_along(MODEL, []))), 1)
        steps = [("shut", 2), ("push", 1, "low", [-1, 1])]
        models = list(models_along(MODEL, steps))
        self.assertEqual(len(models), 3)
        self.assertTrue(same_model(models[0], MODEL))
        self.assertTrue(same_model(models[1], left_after(MODEL, steps[0])))
        self.assertTrue(same_model(models[2], left_after(models[1], steps[1])))

    def test_a_bad_step_raises_when_the_iteration_comes_to_it(self):
        iteration = models_along(MODEL, [("shut", 2), ("shut", 0), ("lift",)])
        self.assertTrue(same_model(next(iteration), MODEL))
        self.assertEqual(next(iteration).book.names, ("a", "b"))
        self.raises(BadAhead, next, iteration)

    def test_any_size(self):
        wide = Model(Book.free(names(16)), [FREE] * 16)
        self.assertEqual([model.book.size for model in models_along(wide, [("blank", 0)] * 15)], list(range(16, 0, -1)))
        self.assertEqual(table_back(wide, [("blank", 0)] * 15, [7]), [0] * 15 + [7])

    def test_many_models(self):
        for model in loose_models(251, 40):
            steps, left = ahead(model)
            models = list(models_along(model, steps))
            self.assertEqual(len(models), len(steps) + 1)
            self.assertTrue(same_model(models[-1], left))


class Errors(Case):
    def test_bad_ahead_comes_ahead_of_bad_size(self):
        for function in (table_back, turning_back, row_back, reduced_back):
            self.raises(BadAhead, function, MODEL, [("shut", 0)], [])
            self.raises(BadAhead, function, MODEL, [("shut", 2), ("blank", 5)], [0] * 9)
            for numbers in ([], [0], [0, 0, 0]):
                self.raises(BadSize, function, MODEL, [("shut", 2)], numbers)
            self.raises(BadSize, function, MODEL, [], [0, 0])
        for function in (table_back, turning_back):
            self.raises(NotTable, function, MODEL, [("shut", 2)], [1, 1])


class Back(Case):
    def test_tables(self):
        # Without c, and with c = 0, b is the negative of a.
        self.assertEqual(table_back(MODEL, [("shut", 2)], [2, -2]), [2, -2, 0])
        self.assertEqual(table_back(MODEL, [("blank", 0)], [(1, 2), 3]), [(5, 2), (1, 2), 3])
        self.assertEqual(table_back(MODEL, [("blank", 0), ("shut", 1)], [4]), [-4, 4, 0])
        self.assertEqual(table_back(MODEL, [], (1, 2, 3)), [1, 2, 3])

    def test_a_blanked_cell_where_every_number_is_possible(self):
        model = Model(Book(names(3), [[1, 0, 2], [0, 1, 0]]), [(0, 1), FREE, FREE])
        self.assertEqual(table_back(model, [("blank", 1)], [1, 2]), [1, 0, 2])
        self.assertEqual(turning_back(model, [("blank", 1)], [1, 2]), [1, 0, 2])
        self.assertEqual(row_back(model, [("blank", 1)], [2, -1]), [2, 0, -1])

    def test_a_shut_cell_where_every_number_is_possible(self):
        model = Model(Book(names(3), [[1, 0, 2]]), [(0, 1), (0, 0), FREE], prices=[1, 5, 0])
        self.assertEqual(row_back(model, [("shut", 1)], [2, -1]), [2, 0, -1])
        self.assertEqual(reduced_back(model, [("shut", 1)], [1, 0]), [1, 0, 0])

    def test_turnings_become_whole_without_a_common_divisor(self):
        book = Book(["a", "b"], [[2, 3]])
        model = Model(book, [FREE, (0, 5)])
        self.assertEqual(turning_back(model, [("blank", 0)], [1]), [2, 3])
        self.assertEqual(turning_back(model, [("blank", 0)], [-1]), [-2, -3])
        self.assertEqual(turning_back(model, [("blank", 0)], [(5, 7)]), [2, 3])
        self.assertEqual(turning_back(model, [("blank", 0)], [0]), [0, 0])
        self.assertEqual(turning_back(model, [], [-4, -6]), [-2, -3])

    def test_rows(self):
        # A price row of the left model has a = b; the frame rows have 1 at c.
        self.assertEqual(row_back(MODEL, [("shut", 2)], [1, 1]), [1, 1, -1])
        self.assertEqual(row_back(MODEL, [("shut", 2)], [(-1, 2), (-1, 2)]), [(-1, 2), (-1, 2), (1, 2)])
        self.assertEqual(row_back(MODEL, [("blank", 0)], [0, 0]), [0, 0, 0])
        self.assertEqual(row_back(MODEL, [], (1, 1, -1)), [1, 1, -1])

    def test_reduced_prices(self):
        # The prices are 0, 1 and 5: the prices minus the list are [0, 0, 0] and [-1, -1, 1].
        self.assertEqual(reduced_back(MODEL, [("shut", 2)], [0, 1]), [0, 1, 5])
        self.assertEqual(reduced_back(MODEL, [("shut", 2)], [1, 2]), [1, 2, 4])
        self.assertEqual(reduced_back(MODEL, [], [0, 0, 6]), [0, 0, 6])
        self.assertEqual(reduced_back(MODEL, [("blank", 0)], [1, 5]), [0, 1, 5])

    def test_drops_and_pushes_change_nothing(self):
        model = Model(BOOK, [(0, 2), (0, 5), (0, 6)], prices=[1, 0, 0])
        steps = [("drop", 2, "low", [1, 1, -1])]
        free = Model(BOOK, [(0, 2), FREE, FREE], prices=[1, 0, 0])
        for here, way in ((model, steps), (free, [("push", 0, "low", [1, 0, 1])])):
            self.assertEqual(table_back(here, way, [1, 2, 3]), [1, 2, 3])
            self.assertEqual(row_back(here, way, [1, 1, -1]), [1, 1, -1])
            self.assertEqual(reduced_back(here, way, [1, 0, 0]), [1, 0, 0])
            self.assertEqual(turning_back(here, way, [-1, 0, -1]), [-1, 0, -1])

    def test_each_step_back_against_the_number_that_fits(self):
        rng = random.Random(252)
        done = 0
        for model in loose_models(253, 60, most=5):
            for step in [step for step in all_steps(model) if step[0] in ("blank", "shut") and slow_holds(model, step)]:
                word, cell = step
                left = left_after(model, step)
                table = random_table(rng, left.book, most=2, bottoms=(1,))
                put = 0 if word == "shut" else number_put_in(model, table, cell, lambda x: is_table(model.book, x))
                self.assertEqual(table_back(model, [step], table), table[:cell] + [put] + table[cell:])
                row = numbers_of([sum(column) for column in zip(*kernel(left.book.frame, left.book.size))] or [0] * left.book.size)
                put = 0 if word == "blank" else number_put_in(model, row, cell, lambda x: is_price(model.book, x))
                self.assertEqual(row_back(model, [step], row), row[:cell] + [put] + row[cell:])
                reduced = numbers_of([x - y for x, y in zip(fractions(left.prices), fractions(row))])
                put = 0 if word == "blank" else number_put_in(
                    model, reduced, cell, lambda x: is_price(model.book, minus_of(model.prices, x)))
                self.assertEqual(reduced_back(model, [step], reduced), reduced[:cell] + [put] + reduced[cell:])
                done += 1
        self.assertGreater(done, 60)

    def test_what_the_outcome_shows_is_led_back(self):
        rng = random.Random(254)
        seen = {"best": 0, "none": 0, "unbounded": 0}
        for model in loose_models(255, 160, most=5):
            steps = random_steps(rng, model) if rng.random() < 0.6 else ahead(model)[0]
            left = list(models_along(model, steps))[-1]
            end = solve(left)
            if steps:
                seen[end.kind] += 1
            if end.kind == "none":
                row = row_back(model, steps, list(end.row))
                self.assertTrue(shows_none(model, row))
                continue
            table = table_back(model, steps, list(end.table))
            self.assertTrue(is_answer(model, table))
            self.assertEqual(price_of(model, table), price_of(left, list(end.table)))
            if is_whole_answer(left, list(end.table)):
                self.assertTrue(is_whole_answer(model, table))
            if end.kind == "best":
                self.assertTrue(shows_best(model, table, reduced_back(model, steps, list(end.row))))
            else:
                turning = turning_back(model, steps, list(end.row))
                self.assertTrue(shows_unbounded(model, table, turning))
                self.assertTrue(all(isinstance(x, int) for x in turning))
        for kind in seen:
            self.assertGreater(seen[kind], 10, kind)

    def test_turnings_of_many_models(self):
        rng = random.Random(256)
        done = 0
        for model in loose_models(257, 60, most=5):
            steps = random_steps(rng, model)
            left = list(models_along(model, steps))[-1]
            for row in list(turnings(left.book))[:3]:
                back = turning_back(model, steps, row)
                self.assertTrue(is_table(model.book, back))
                self.assertEqual([-x for x in back], turning_back(model, steps, [-x for x in row]))
                times = random_number(rng)
                if times != 0:
                    factor = abs(fractions([times])[0])
                    self.assertEqual(turning_back(model, steps, numbers_of([x * factor for x in row])), back)
                if not any(step[0] == "blank" for step in steps):
                    self.assertTrue(is_turning(model.book, back))
                done += bool(steps)
        self.assertGreater(done, 20)


def minus_of(first, second):
    """Returns the first list minus the second one."""
    return numbers_of([x - y for x, y in zip(fractions(first), fractions(second))])


if __name__ == "__main__":
    unittest.main()
