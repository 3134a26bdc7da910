"""Points 67 to 69 and 71: steps from a stand, and the rules."""

import random
import unittest
from fractions import Fraction

from engine import box_of, out_of_range, slow_step, stands_of, table_of_stand
from fineststep.books import Book
from fineststep.certificates import shows_best, shows_none, shows_unbounded
from fineststep.errors import BadRule, BadStand
from fineststep.exact import less
from fineststep.models import Model, is_answer
from fineststep.rules import RULES
from fineststep.stands import reduced_prices, stand_table
from fineststep.stepping import step_from
from fineststep.turnings import is_turning
from helpers import Case, engine_models, fractions, names

BOOK = Book(["a", "b", "c"], [[1, 0, 1], [0, 1, 1]])
FREE = (None, None)


def one(ends, price):
    """Returns the model of one free cell."""
    return Model(Book.free(["a"]), [ends], prices=[price])


class Flips(Case):
    def test_to_the_other_end(self):
        self.assertEqual(step_from(one((0, 2), -1), ((0,), ("low",))), ("flip", ((0,), ("high",)), [1]))
        self.assertEqual(step_from(one((0, 2), (1, 2)), ((0,), ("high",))), ("flip", ((0,), ("low",)), [-1]))

    def test_the_cell_that_is_let_go_comes_before_others_that_stop_the_step_too(self):
        model = Model(BOOK, [(0, 2), (0, 1), (0, 2)], prices=[-1, 0, 0])
        for rule in RULES + ((2, 1, 0), (2, 0, 1)):
            self.assertEqual(step_from(model, ((0, 1), ("low", "low")), rule=rule), ("flip", ((0, 1), ("high", "low")), [1, 0, 1]))

    def test_other_words_stay(self):
        model = Model(BOOK, [(0, 2), FREE, (None, 9)], prices=[-1, 0, 0])
        self.assertEqual(step_from(model, ((0, 1), ("low", "zero"))), ("flip", ((0, 1), ("high", "zero")), [1, 0, 1]))


class Swaps(Case):
    def test_the_word_of_the_cell_that_comes_in(self):
        model = Model(BOOK, [(0, 9), (0, 9), (0, 4)], prices=[-1, 0, 0])
        self.assertEqual(step_from(model, ((0, 1), ("low", "low"))), ("swap", ((1, 2), ("low", "high")), [1, 0, 1]))
        model = Model(BOOK, [(0, 9), (0, 9), (12, 20)], prices=[1, 0, 0])
        self.assertEqual(step_from(model, ((0, 1), ("high", "high"))), ("swap", ((1, 2), ("high", "low")), [-1, 0, -1]))

    def test_a_cell_with_the_word_zero(self):
        model = Model(BOOK, [FREE, (0, 1), (0, 5)], prices=[1, 0, 0])
        self.assertEqual(step_from(model, ((0, 1), ("zero", "low"))), ("swap", ((1, 2), ("low", "low")), [-1, 0, -1]))
        model = Model(BOOK, [FREE, (0, 1), (0, 5)], prices=[-1, 0, 0])
        self.assertEqual(step_from(model, ((0, 1), ("zero", "low"))), ("swap", ((1, 2), ("low", "high")), [1, 0, 1]))
        self.assertEqual(step_from(one(FREE, 1), ((0,), ("zero",))), ("unbounded", ((0,), ("zero",)), [-1]))
        self.assertEqual(step_from(one(FREE, -1), ((0,), ("zero",))), ("unbounded", ((0,), ("zero",)), [1]))
        self.assertEqual(step_from(one(FREE, 0), ((0,), ("zero",))), ("best", ((0,), ("zero",)), [0]))

    def test_steps_of_length_0(self):
        model = Model(BOOK, [(0, 9), (0, 9), (None, 0)], prices=[-1, 0, 0])
        self.assertEqual(step_from(model, ((0, 1), ("low", "low"))), ("swap", ((1, 2), ("low", "high")), [1, 0, 1]))
        model = Model(BOOK, [(0, None), (0, 9), (None, 0)], prices=[-1, -2, 0])
        self.assertEqual(step_from(model, ((0, 1), ("low", "low")), rule="gain"), ("swap", ((0, 2), ("low", "high")), [0, 1, 1]))

    def test_fixed_cells_are_not_let_go(self):
        model = Model(BOOK, [(1, 1), (0, 9), (0, 9)], prices=[-5, -1, 0])
        self.assertEqual(step_from(model, ((0, 1), ("low", "low"))), ("swap", ((0, 2), ("low", "high")), [0, 1, 1]))
        model = Model(BOOK, [(1, 1), (0, 0), (0, 9)], prices=[-5, 1, 0])
        for words in (("low", "low"), ("high", "low"), ("low", "high"), ("high", "high")):
            self.assertEqual(step_from(model, ((0, 1), words)), ("best", ((0, 1), words), [-5, 1, 0]))

    def test_a_fixed_cell_that_comes_in(self):
        model = Model(BOOK, [(0, 9), (0, 9), (4, 4)], prices=[0, 0, 0])
        self.assertEqual(step_from(model, ((0, 1), ("low", "low"))), ("swap", ((1, 2), ("low", "low")), [1, 0, 1]))
        self.assertEqual(step_from(model, ((0, 1), ("high", "low"))), ("swap", ((1, 2), ("low", "high")), [-1, 0, -1]))

    def test_the_list_e_is_a_signed_turning(self):
        book = Book(["a", "b", "c"], [[2, 1, 0], [0, 3, 3]])
        model = Model(book, [(0, 9), (0, 9), (-9, 9)], prices=[-1, 0, 0])
        self.assertEqual(step_from(model, ((0, 1), ("low", "low")))[2], [2, 0, -1])


class Mending(Case):
    def test_the_goal_below_its_range(self):
        model = Model(BOOK, [(0, 9), (0, 9), (3, 6)], prices=[5, 5, 5])
        self.assertEqual(step_from(model, ((0, 1), ("low", "low"))), ("swap", ((1, 2), ("low", "low")), [1, 0, 1]))
        # It stops where it enters its own range, not at the other end.
        self.assertEqual(stand_table(model, ((1, 2), ("low", "low"))), [3, 0, 3])

    def test_the_goal_above_its_range(self):
        model = Model(BOOK, [(0, 9), (0, 9), (3, 12)])
        self.assertEqual(step_from(model, ((0, 1), ("high", "high"))), ("swap", ((1, 2), ("high", "high")), [-1, 0, -1]))
        self.assertEqual(stand_table(model, ((1, 2), ("high", "high"))), [3, 9, 12])
        model = Model(BOOK, [(0, 9), (0, 9), (3, 6)])
        self.assertEqual(step_from(model, ((0, 1), ("low", "high"))), ("swap", ((0, 2), ("low", "high")), [0, -1, -1]))

    def test_another_cell_stops_the_step(self):
        model = Model(BOOK, [(0, 2), (0, 9), (3, 6)])
        self.assertEqual(step_from(model, ((0, 1), ("low", "low"))), ("flip", ((0, 1), ("high", "low")), [1, 0, 1]))

    def test_a_goal_without_another_end(self):
        model = Model(BOOK, [(0, 9), (0, 9), (3, None)])
        self.assertEqual(step_from(model, ((0, 1), ("low", "low"))), ("swap", ((1, 2), ("low", "low")), [1, 0, 1]))

    def test_the_least_cell_is_the_goal(self):
        book = Book(["a", "b", "c"], [[1, 1, 1]])
        model = Model(book, [(0, 9), (2, 5), (3, 9)])
        self.assertEqual(step_from(model, ((0,), ("low",))), ("swap", ((1,), ("low",)), [1, 1, 1]))

    def test_other_cells_out_of_their_ranges(self):
        book = Book(["a", "b", "c", "d"], [[1, 1, 1, -1]])
        # c passes its own low end, and stops at its high end, before b comes to its low end.
        model = Model(book, [(0, 99), (9, 20), (2, 5), FREE])
        self.assertEqual(step_from(model, ((0,), ("low",))), ("swap", ((2,), ("high",)), [1, 1, 1, -1]))
        # d is above its range and goes down to its low end.
        model = Model(book, [(0, 99), (9, 20), FREE, (-7, -3)])
        self.assertEqual(step_from(model, ((0,), ("low",))), ("swap", ((3,), ("low",)), [1, 1, 1, -1]))
        # Without another end it does not stop the step.
        model = Model(book, [(0, 99), (9, 20), (2, None), (None, -3)])
        self.assertEqual(step_from(model, ((0,), ("low",))), ("swap", ((1,), ("low",)), [1, 1, 1, -1]))

    def test_the_prices_of_the_model_do_not_count(self):
        for prices in ([9, 9, 9], [-9, -9, -9], [0, 0, 0]):
            model = Model(BOOK, [(0, 9), (0, 9), (3, 6)], prices=prices)
            self.assertEqual(step_from(model, ((0, 1), ("low", "low")))[:2], ("swap", ((1, 2), ("low", "low"))))


class Ends(Case):
    def test_best(self):
        model = Model(BOOK, [(0, 2), (0, None), (1, (5, 2))], prices=[1, (1, 2), 0])
        stand = ((0, 2), ("low", "low"))
        self.assertEqual(step_from(model, stand), ("best", stand, [(1, 2), 0, (1, 2)]))

    def test_none(self):
        model = Model(BOOK, [(0, 2), (0, 1), (5, 6)])
        stand = ((0, 1), ("high", "high"))
        self.assertEqual(step_from(model, stand), ("none", stand, [1, 1, -1]))
        model = Model(BOOK, [(1, 2), (1, 2), (0, 1)])
        stand = ((0, 1), ("low", "low"))
        self.assertEqual(step_from(model, stand), ("none", stand, [-1, -1, 1]))
        model = Model(Book(["a", "b"], []), [(0, 0), ((-5, 2), -1)])
        self.assertEqual(step_from(model, ((), ())), ("none", ((), ()), [0, 1]))

    def test_unbounded(self):
        model = Model(BOOK, [(0, None), (0, 1), FREE], prices=[0, 0, -1])
        self.assertEqual(step_from(model, ((0, 1), ("low", "low"))), ("unbounded", ((0, 1), ("low", "low")), [1, 0, 1]))
        model = Model(BOOK, [(None, 0), (0, 1), FREE], prices=[0, 0, 1])
        self.assertEqual(step_from(model, ((0, 1), ("high", "low"))), ("unbounded", ((0, 1), ("high", "low")), [-1, 0, -1]))

    def test_the_kinds_of_values(self):
        for kind, stand, row in (step_from(Model(BOOK, [(0, 2), (0, 1), (5, 6)]), ((0, 1), ("high", "high"))),
                                 step_from(one((0, 2), -1), ((0,), ("low",)))):
            self.assertEqual([type(kind), type(stand), type(stand[0]), type(stand[1]), type(row)], [str, tuple, tuple, tuple, list])

    def test_the_rows_show_the_kinds(self):
        counts = {"best": 0, "none": 0, "unbounded": 0}
        for model in engine_models(6, 60, seed=71):
            for stand in stands_of(model)[:30]:
                kind, same, row = step_from(model, stand)
                if kind not in counts:
                    continue
                counts[kind] += 1
                self.assertEqual(same, stand)
                table = stand_table(model, stand)
                if kind == "best":
                    self.assertEqual(row, reduced_prices(model, stand))
                    self.assertIs(shows_best(model, table, row), True)
                elif kind == "none":
                    self.assertIs(shows_none(model, row), True)
                    outside = [cell for cell in range(model.book.size) if cell not in stand[0] and row[cell] != 0]
                    self.assertEqual(outside, [min(out_of_range(fractions(table), box_of(model)))])
                else:
                    self.assertIs(shows_unbounded(model, table, row), True)
                    self.assertIs(is_turning(model.book, row), True)
        self.assertGreater(min(counts.values()), 10)


class Rules(Case):
    # Three cells may be let go: c0 gains most, c1 falls most, c2 is the last one.
    MODEL = Model(Book(names(4), [[1, 0, 0, 0], [0, 1, 0, 1], [0, 0, 1, 1]]), [(0, 1), (0, 9), (0, 2), (0, 5)],
                  prices=[-3, -2, -1, 0])
    STAND = ((0, 1, 2), ("low", "low", "low"))

    def left(self, model, rule, stand=STAND):
        """Returns the cell that is let go, which is the only one of the basis that the list e moves."""
        row = step_from(model, stand, rule=rule)[2]
        return [cell for cell in stand[0] if row[cell] != 0]

    def test_each_rule(self):
        found = {rule: self.left(self.MODEL, rule) for rule in RULES}
        self.assertEqual(found, {"first": [0], "last": [2], "gain": [0], "fall": [1]})
        self.assertEqual(self.left(self.MODEL, "first"), [0])
        self.assertEqual(step_from(self.MODEL, self.STAND), step_from(self.MODEL, self.STAND, rule="first"))

    def test_orders(self):
        for order, cell in (((3, 2, 1, 0), 2), ((3, 1, 0, 2), 1), ((1, 0, 2, 3), 1), ((0, 1, 2, 3), 0), ((3, 0, 2, 1), 0)):
            self.assertEqual(self.left(self.MODEL, order), [cell])

    def test_ties_of_gain_and_fall(self):
        for prices in ([-2, -2, -2], [-2, -2, 2]):
            model = Model(Book.free(names(3)), [(0, 1)] * 3, prices=prices)
            stand = ((0, 1, 2), ("low", "low", "low" if prices[2] < 0 else "high"))
            for rule, cell in (("gain", 0), ("fall", 0), ("first", 0), ("last", 2)):
                self.assertEqual(self.left(model, rule, stand), [cell])
        model = Model(Book.free(names(3)), [(0, 1), (0, 2), (0, 2)], prices=[-1, -2, -2])
        self.assertEqual([self.left(model, "gain"), self.left(model, "fall")], [[1], [1]])
        model = Model(Book.free(names(3)), [(0, 4), (0, 2), (0, 1)], prices=[-1, -2, -4])
        self.assertEqual([self.left(model, "gain"), self.left(model, "fall")], [[2], [0]])

    def test_gain_goes_by_the_size_of_the_reduced_price(self):
        model = Model(Book.free(names(3)), [(0, 1)] * 3, prices=[-1, (3, 2), (-4, 3)])
        self.assertEqual(self.left(model, "gain", ((0, 1, 2), ("low", "high", "low"))), [1])
        # The reduced price is divided by the number of the turning.
        book = Book(names(3), [[3, 0, 1], [0, 1, 0]])
        model = Model(book, [(0, 9), (0, 9), FREE], prices=[0, -2, -5])
        self.assertEqual(self.left(model, "gain", ((0, 1), ("low", "low"))), [1])

    def test_a_step_without_a_limit_falls_most(self):
        model = Model(Book.free(names(3)), [(0, 10 ** 9), (0, None), (0, None)], prices=[-10, (-1, 9), -5])
        stand = ((0, 1, 2), ("low", "low", "low"))
        self.assertEqual(step_from(model, stand, rule="fall"), ("unbounded", stand, [0, 1, 0]))
        self.assertEqual(step_from(model, stand, rule="gain")[0], "flip")
        self.assertEqual(step_from(model, stand, rule="last"), ("unbounded", stand, [0, 0, 1]))

    def test_falls_of_0(self):
        book = Book(names(4), [[1, 0, 0, 1], [0, 1, 0, 1], [0, 0, 1, 0]])
        model = Model(book, [(0, 9), (0, 9), (0, (1, 9)), (None, 0)], prices=[-5, -6, (-1, 9), 0])
        self.assertEqual(self.left(model, "fall"), [2])
        model = Model(book, [(0, 9), (0, 9), (0, 0), (None, 0)], prices=[-5, -6, -9, 0])
        self.assertEqual(self.left(model, "fall"), [0])

    def test_which_cell_comes_in(self):
        book = Book(names(4), [[1, 1, 1, 1]])
        model = Model(book, [(0, 9), (None, 3), (None, 3), (None, 3)], prices=[-1, 0, 0, 0])
        expected = {"first": 1, "last": 3, "gain": 1, "fall": 1, (0, 2, 3, 1): 2, (3, 0, 1, 2): 3, (0, 1, 2, 3): 1}
        for rule, cell in expected.items():
            self.assertEqual(step_from(model, ((0,), ("low",)), rule=rule), ("swap", ((cell,), ("high",)), [1, 1, 1, 1]))

    def test_which_cell_comes_in_while_mending(self):
        book = Book(names(4), [[1, 1, 1, 1]])
        model = Model(book, [(0, 9), (0, 3), (3, 8), (0, 3)])
        expected = {"first": (1, "high"), "last": (3, "high"), "gain": (1, "high"), "fall": (1, "high"),
                    (0, 2, 3, 1): (2, "low"), (3, 0, 1, 2): (3, "high")}
        for rule, (cell, word) in expected.items():
            self.assertEqual(step_from(model, ((0,), ("low",)), rule=rule)[1], ((cell,), (word,)))

    def test_gain_and_fall_while_mending(self):
        book = Book(names(3), [[2, 0, 1], [0, 1, 3]])
        model = Model(book, [(0, 100), (0, 1), (10, 20)], prices=[-9, 9, 0])
        # For the goal a gains 1/2 and b gains 3; a comes to the goal, b falls 3 only.
        stand = ((0, 1), ("low", "low"))
        self.assertEqual(step_from(model, stand, rule="gain"), ("flip", ((0, 1), ("low", "high")), [0, 1, 3]))
        self.assertEqual(step_from(model, stand, rule="fall"), ("swap", ((1, 2), ("low", "low")), [2, 0, 1]))

    def test_bad_rules(self):
        model = Model(BOOK, [(0, 2), (0, 1), (0, 6)])
        stand = ((0, 1), ("low", "low"))
        for rule in ("", "First", "best", "low", "first ", (), (0, 1), (0, 1, 1), (0, 1, 2, 3), (1, 2, 3), (-1, 0, 1), (0, 0, 0),
                     (0, 1, 2, 2)):
            self.raises(BadRule, step_from, model, stand, rule=rule)
        for rule in RULES + ((2, 0, 1), (0, 1, 2)):
            self.assertEqual(step_from(model, stand, rule=rule)[0], "best")

    def test_bad_stand_comes_before_bad_rule(self):
        model = Model(BOOK, [(0, 2), (0, 1), (0, 6)])
        for stand in (((0, 3), ("low", "low")), ((1, 0), ("low", "low")), ((0,), ("low",)), ((0, 1), ("zero", "low")),
                      ((0, 1), ("low",)), ((-1, 0), ("low", "low")), ((0, 1), ("low", "x"))):
            self.raises(BadStand, step_from, model, stand, rule="x")
            self.raises(BadStand, step_from, model, stand)

    def test_the_rule_is_passed_by_its_name(self):
        self.raises(TypeError, step_from, one((0, 1), 0), ((0,), ("low",)), "first")


class Many(Case):
    def test_all_kinds_of_steps(self):
        rng = random.Random(72)
        counts = {}
        for model in engine_models(6, 70, seed=72):
            stands = stands_of(model)
            for stand in rng.sample(stands, min(8, len(stands))):
                order = list(range(model.book.size))
                rng.shuffle(order)
                for rule in RULES + (tuple(order),):
                    found = step_from(model, stand, rule=rule)
                    self.assertEqual(found, slow_step(model, stand, rule))
                    mends = not is_answer(model, stand_table(model, stand))
                    counts[found[0], mends] = counts.get((found[0], mends), 0) + 1
        for key in (("swap", True), ("swap", False), ("flip", True), ("flip", False), ("best", False), ("none", True),
                    ("unbounded", False)):
            self.assertGreater(counts.get(key, 0), 10, key)
        self.assertNotIn(("unbounded", True), counts)

    def test_answers_lead_to_answers_that_are_not_dearer(self):
        for model in engine_models(6, 60, seed=73):
            for stand in stands_of(model)[:20]:
                table = stand_table(model, stand)
                kind, following, row = step_from(model, stand)
                if kind in ("swap", "flip") and is_answer(model, table):
                    new = stand_table(model, following)
                    self.assertIs(is_answer(model, new), True)
                    moves = [(y - x) / z for x, y, z in zip(fractions(table), fractions(new), row) if z]
                    self.assertEqual(len(set(moves)), 1)
                    self.assertGreaterEqual(moves[0], Fraction(0))
                    self.assertFalse(any(x != y for x, y, z in zip(table, new, row) if z == 0))

    def test_wide_books(self):
        model = Model(Book.free(names(16)), [(0, 1)] * 16, prices=[-1] * 16)
        stand = (tuple(range(16)), ("low",) * 16)
        kind, following, row = step_from(model, stand, rule="last")
        self.assertEqual((kind, following[1][15], row), ("flip", "high", [0] * 15 + [1]))
        self.assertIs(less(0, row[15]), True)


if __name__ == "__main__":
    unittest.main()
