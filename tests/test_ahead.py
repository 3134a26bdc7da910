"""Points 103 to 109: reduction steps, what they leave, and the steps ahead."""

import itertools
import unittest

from fineststep.ahead import ahead, left_after, step_holds
from fineststep.best import best_price
from fineststep.books import Book
from fineststep.errors import BadAhead, NoAnswer, NoLeast, TooWide
from fineststep.models import Model, same_model
from helpers import Case, names
from reducing import all_steps, loose_models, slow_holds, slow_steps

FREE = (None, None)
RULES = ("drop", "push", "blank", "shut")
BOOK = Book(["a", "b", "c"], [[1, 0, 1], [0, 1, 1]])
MODEL = Model(BOOK, [(0, 2), (0, 5), (0, 6)])
# Each rule has a step.
ALL = Model(Book.free(["a", "b", "c", "d"]), [(0, 1), (0, 0), FREE, (0, 2)])


def slow_ahead(model, rules):
    """Returns the steps ahead and the model left as point 109 says."""
    steps = []
    while True:
        step = next((found[0] for found in (slow_steps(model, rule) for rule in rules) if found), None)
        if step is None:
            return steps, model
        steps.append(step)
        model = left_after(model, step)


def shown_price(model):
    """Returns the least price, or the class of the error."""
    try:
        return best_price(model)
    except (NoAnswer, NoLeast) as error:
        return type(error)


class StepHolds(Case):
    def test_steps_of_another_form(self):
        row, turning = [1, 1, -1], [1, 0, 1]
        self.assertIs(step_holds(MODEL, ("drop", 2, "low", row)), True)
        for step in ((), ("drop",), ("drop", 2), ("drop", 2, "low"), ("drop", 2, "low", row, row), ("push", 0, "low"), ("push",),
                     ("push", 0), ("push", 0, "low", turning, 0), ("blank",), ("blank", 0, 0), ("blank", 0, "low", row),
                     ("shut",), ("shut", 0, "low"), ("shut", 0, "low", turning), ("Drop", 2, "low", row), ("", 2, "low", row),
                     ("lift", 2), ("lift",), ("range", 2, "low", row), ("lift", 2, 3, 4)):
            self.assertIs(step_holds(MODEL, step), False, step)
        model = Model(BOOK, [(0, 1), FREE, FREE])
        for word, expected in (("push", True), ("Push", False), ("lift", False), ("", False), ("drop", False), ("blank", False)):
            self.assertIs(step_holds(model, (word, 0, "low", turning)), expected)

    def test_cells_out_of_range(self):
        for cell in (-1, 3, 4, -3, 99):
            for step in (("drop", cell, "low", [1, 1, -1]), ("push", cell, "low", [1, 0, 1]), ("blank", cell), ("shut", cell)):
                self.assertIs(step_holds(MODEL, step), False, step)
        model = Model(BOOK, [FREE, FREE, FREE])
        self.assertEqual([step_holds(model, ("blank", cell)) for cell in (-1, 0, 2, 3)], [False, True, True, False])
        model = Model(BOOK, [(0, 0)] * 3)
        self.assertEqual([step_holds(model, ("shut", cell)) for cell in (-1, 0, 2, 3)], [False, True, True, False])

    def test_other_sides(self):
        for side in ("", "Low", "zero", "up"):
            self.assertIs(step_holds(MODEL, ("drop", 2, side, [1, 1, -1])), False)
            self.assertIs(step_holds(Model(BOOK, [(0, 1), FREE, FREE]), ("push", 0, side, [1, 0, 1])), False)

    def test_lists_of_another_length(self):
        for row in ([], [1, 1], [1, 1, -1, 0]):
            self.assertIs(step_holds(MODEL, ("drop", 2, "low", row)), False)
            self.assertIs(step_holds(Model(BOOK, [(0, 1), FREE, FREE]), ("push", 0, "low", row)), False)

    def test_all_steps_of_many_models(self):
        held, refused = 0, 0
        for model in loose_models(241, 60, most=5):
            for step in all_steps(model):
                expected = slow_holds(model, step)
                self.assertIs(step_holds(model, step), expected, step)
                if not expected:
                    refused += 1
                    self.raises(BadAhead, left_after, model, step)
                held += expected
        self.assertGreater(held, 200)
        self.assertGreater(refused, 200)


class LeftAfter(Case):
    def test_a_step_of_another_form(self):
        for step in ((), ("drop", 2), ("lift", 2), ("blank", 7)):
            self.raises(BadAhead, left_after, MODEL, step)

    def test_each_model_left_has_an_answer_and_a_least_price_exactly_as_the_one_before(self):
        seen = {"drop": set(), "push": set(), "blank": set(), "shut": set()}
        for model in loose_models(242, 150, most=5):
            price = shown_price(model)
            for step in all_steps(model):
                if slow_holds(model, step):
                    self.assertEqual(shown_price(left_after(model, step)), price)
                    seen[step[0]].add(price if isinstance(price, type) else 0)
        for word in ("drop", "push", "blank", "shut"):
            self.assertEqual(seen[word], {0, NoAnswer, NoLeast}, word)


class Ahead(Case):
    def test_all_rules(self):
        steps, left = ahead(MODEL)
        self.assertEqual(steps[0], ("drop", 2, "low", [1, 1, -1]))
        self.assertTrue(same_model(left, slow_ahead(MODEL, RULES)[1]))
        self.assertEqual(steps, slow_ahead(MODEL, RULES)[0])
        self.assertEqual([step[:2] for step in ahead(ALL)[0]], [("push", 0), ("push", 3), ("blank", 2), ("shut", 0), ("shut", 0)])

    def test_the_first_rule_with_a_step_counts(self):
        for rules in itertools.permutations(("push", "blank", "shut")):
            self.assertEqual(ahead(ALL, rules)[0][0][0], rules[0])
            self.assertEqual(ahead(ALL, list(rules))[0], ahead(ALL, rules)[0])
        # After each step the first rule is asked again: the push at a leaves a cell to be shut.
        self.assertEqual([step[0] for step in ahead(ALL, ("shut", "push"))[0]], ["shut", "push", "shut", "push", "shut"])

    def test_some_rules_and_none(self):
        self.assertEqual([step[:2] for step in ahead(ALL, ["shut"])[0]], [("shut", 1)])
        steps, left = ahead(ALL, ())
        self.assertEqual(steps, [])
        self.assertTrue(same_model(left, ALL))
        self.assertEqual(ahead(ALL, [])[0], [])

    def test_the_only_cell_left_stays(self):
        model = Model(Book.free(names(3)), [(0, 0)] * 3)
        steps, left = ahead(model)
        self.assertEqual((steps, left.book.names, left.box), ([("shut", 0), ("shut", 0)], ("c2",), ((0, 0),)))

    def test_bad_rules(self):
        for rules in (["lift"], ["drop", "Drop"], ["drop", "drop"], ("shut", "push", "shut"), [""], ["drop", "lift", "drop"]):
            self.raises(BadAhead, ahead, MODEL, rules)

    def test_too_wide_comes_first(self):
        self.raises_wide(12, TooWide, ahead, Model(Book.free(names(12)), [FREE] * 12), ["lift"])

    def test_the_rules_in_every_order(self):
        for model in loose_models(243, 14, most=4):
            for many in range(1, 5):
                for rules in itertools.permutations(RULES, many):
                    self.check(model, rules)

    def test_many_models(self):
        seen = []
        for model in loose_models(244, 70):
            seen += [step[0] for step in self.check(model, RULES)]
        for rule in RULES:
            self.assertGreater(seen.count(rule), 5, rule)

    def check(self, model, rules):
        """Compares ahead with the slow way; returns the steps."""
        steps, left = ahead(model, rules)
        slow_found, slow_left = slow_ahead(model, rules)
        self.assertEqual(steps, slow_found)
        self.assertTrue(same_model(left, slow_left))
        self.assertEqual(shown_price(left), shown_price(model))
        return steps


if __name__ == "__main__":
    unittest.main()
