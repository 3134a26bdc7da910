"""Point 102: runs that add cuts."""

import unittest

from fineststep.below import from_below
from fineststep.books import Book
from fineststep.cutting import cut_run
from fineststep.cuts import cut_holds, cut_of, with_cut
from fineststep.errors import BadName, MixedModel, NoCut, NoLeast
from fineststep.exact import is_whole
from fineststep.models import Model, same_model
from fineststep.running import solve
from helpers import Case, fraction, names
from wholly import knapsack_models, slow_lowest, whole_models

FREE = (None, None)
HALVES = Book(["a", "b", "c"], [[2, 0, 1], [0, 2, 1]])
MODEL = Model(HALVES, [(0, 3), (0, 0), (0, 2)], prices=[-1, 0, 0], marks=[0, 1, 2])


def slow_run(model, new_names):
    """Returns what cut_run returns, step by step as point 102 says."""
    end, cuts = solve(model), []
    for name in new_names:
        broken = [cell for cell, number in enumerate(end.table) if not is_whole(number)]
        if end.kind != "best" or not broken or model.book.size == 16:
            break
        try:
            cut = cut_of(model, end.stand, broken[0])
        except NoCut:
            break
        model = with_cut(model, name, cut)
        end = from_below(model, end.stand)
        cuts.append(cut)
    return end, model, cuts


def fields(outcome):
    """Returns the fields of an outcome."""
    return [outcome.kind, outcome.stand, outcome.table, outcome.row, outcome.price, outcome.steps]


class CutRun(Case):
    def test_a_run_that_ends_with_a_whole_table(self):
        end, model, cuts = cut_run(MODEL, ["x", "y"])
        # The first table is (3, 0, 3/2); the row is 1 at c, and the high end of a is rounded away.
        self.assertEqual(cuts, [([0, -1, 1], [(1, 2), (1, 2), -1], 1)])
        self.assertEqual((end.kind, end.table, end.price), ("best", (2, 0, 1, 1), -2))
        self.assertTrue(same_model(model, with_cut(MODEL, "x", cuts[0])))

    def test_a_whole_table_at_once(self):
        model = Model(HALVES, [(0, 2), (0, 0), (0, 2)], prices=[-1, 0, 0], marks=[0, 1, 2])
        end, last, cuts = cut_run(model, ["A", "B"])
        self.assertEqual((fields(end), cuts), (fields(solve(model)), []))
        self.assertTrue(same_model(last, model))

    def test_a_run_that_ends_for_want_of_names(self):
        end, model, cuts = cut_run(MODEL, [])
        self.assertEqual((end.kind, end.table, cuts), ("best", (3, 0, (3, 2)), []))
        self.assertTrue(same_model(model, MODEL))

    def test_a_run_that_ends_for_want_of_cells(self):
        rows = [[2 * int(cell == k) + (1 - int(cell < 15)) for cell in range(16)] for k in range(15)]
        model = Model(Book(names(16), rows), [(0, 1)] + [(0, 0)] * 14 + [(0, 5)], prices=[-1] + [0] * 15, marks=range(16))
        end, last, cuts = cut_run(model, ["A"])
        self.assertEqual((end.kind, end.table[15], cuts), ("best", (1, 2), []))
        self.assertTrue(same_model(last, model))

    def test_a_run_that_reaches_16_cells(self):
        reached = 0
        for model in knapsack_models(201, 60):
            end, last, cuts = cut_run(model, [f"x{k}" for k in range(20)])
            self.assertEqual(last.book.size, 5 + len(cuts))
            self.assertLessEqual(last.book.size, 16)
            reached += last.book.size == 16
        self.assertGreater(reached, 0)

    def test_a_run_that_ends_for_want_of_a_cut(self):
        # c is sure whole and not marked, and its end 1/2 is in the basis of the best stand: a is 1/2.
        model = Model(Book(["a", "c"], [[1, 1]]), [(0, 3), (None, (1, 2))], prices=[-1, 0], marks=[0])
        end, last, cuts = cut_run(model, ["x"])
        self.assertEqual((end.kind, end.table, cuts), ("best", ((1, 2), (1, 2)), []))
        self.assertTrue(same_model(last, model))

    def test_models_without_an_answer(self):
        model = Model(HALVES, [(0, 1), (0, 1), (3, 4)], marks=[0, 1, 2])
        end, last, cuts = cut_run(model, ["A"])
        self.assertEqual((fields(end), cuts), (fields(solve(model)), []))
        self.assertEqual(end.kind, "none")

    def test_cuts_that_leave_no_answer(self):
        model = Model(HALVES, [(1, 1), (0, 0), (0, 1)], marks=[0, 1, 2])
        end, last, cuts = cut_run(model, ["x", "y", "z"])
        self.assertEqual((end.kind, len(cuts), last.book.size), ("none", 1, 4))

    def test_errors_in_their_order(self):
        self.raises_cell(MixedModel, 2, cut_run, Model(HALVES, [(0, None), FREE, FREE], prices=[-1, 0, 0], marks=[0, 1]), [])
        model = Model(HALVES, [(0, None), FREE, FREE], prices=[-1, 0, 0], marks=[0, 1, 2])
        error = self.raises(NoLeast, cut_run, model, ["A"])
        self.assertEqual(error.turning, list(solve(model).row))
        self.assertIs(type(error.turning), list)

    def test_bad_names_count_only_when_they_are_used(self):
        for name in ("A", "a", "", "x" * 13):
            self.raises(BadName, cut_run, MODEL, [name])
            self.assertEqual(len(cut_run(MODEL, ["x", name])[2]), 1)

    def test_many_models(self):
        lengths, whole = [], 0
        for model in whole_models(202, 80) + knapsack_models(203, 40):
            new_names = ["x", "y", "z", "w"]
            if solve(model).kind == "unbounded":
                self.raises(NoLeast, cut_run, model, new_names)
                continue
            end, last, cuts = cut_run(model, new_names)
            slow_end, slow_last, slow_cuts = slow_run(model, new_names)
            self.assertEqual((fields(end), cuts), (fields(slow_end), slow_cuts))
            self.assertTrue(same_model(last, slow_last))
            here = model
            for name, cut in zip(new_names, cuts):
                self.assertIs(cut_holds(here, cut), True)
                here = with_cut(here, name, cut)
            if end.kind == "best" and all(map(is_whole, end.table)) and all(None not in model.box[cell] for cell in model.marks):
                self.assertEqual(fraction(end.price), slow_lowest(model))
                whole += 1
            lengths.append(len(cuts))
        self.assertGreater(len([many for many in lengths if many > 1]), 10)
        self.assertGreater(whole, 20)


if __name__ == "__main__":
    unittest.main()
