"""Points 74 and 75: steps and runs from below."""

import random
import unittest

from engine import reduced_for, slow_below_step, slow_outcome, stands_of
from fineststep.below import below_start, below_step, from_below
from fineststep.books import Book, pivots
from fineststep.certificates import shows_none
from fineststep.errors import BadStand, NoStart, NotPriced
from fineststep.models import Model
from fineststep.outcomes import Outcome
from fineststep.running import solve
from fineststep.stands import is_priced
from helpers import Case, engine_models, fractions, names

BOOK = Book(["a", "b", "c"], [[1, 0, 1], [0, 1, 1]])
FREE = (None, None)


def fields(end):
    """Returns the fields of an outcome."""
    return [end.kind, end.stand, end.table, end.row, end.price, end.steps]


class Start(Case):
    def test_each_word(self):
        model = Model(BOOK, [(0, 2), (None, 1), FREE], prices=[1, -1, 0])
        self.assertEqual(below_start(model), ((0, 1), ("low", "high")))
        self.assertEqual(below_start(Model(BOOK, [(0, 2), (0, 1), FREE], prices=[-1, (-1, 2), 0])), ((0, 1), ("high", "high")))
        self.assertEqual(below_start(Model(BOOK, [(0, 2), (0, 1), FREE], prices=[0, 0, 1])), ((0, 1), ("low", "low")))

    def test_reduced_prices_of_0(self):
        self.assertEqual(below_start(Model(BOOK, [(None, 2), FREE, FREE])), ((0, 1), ("high", "zero")))
        self.assertEqual(below_start(Model(BOOK, [(1, 2), (1, None), FREE], prices=[1, 1, -1])), ((0, 1), ("low", "low")))

    def test_fixed_entries_have_both_ends(self):
        self.assertEqual(below_start(Model(BOOK, [(1, 1), (1, 1), FREE], prices=[1, -1, 0])), ((0, 1), ("low", "high")))

    def test_no_start(self):
        for box, prices, cell in (([(None, 2), (0, 1), FREE], [1, 1, 0], 0), ([(0, None), (0, 1), FREE], [-1, 1, 0], 0),
                                  ([(0, 2), FREE, FREE], [1, 1, 0], 1), ([FREE, FREE, FREE], [0, -1, 0], 1),
                                  ([FREE, FREE, FREE], [-1, 1, 0], 0), ([(0, 2), (None, 2), FREE], [0, 0, 1], 1)):
            self.raises_cell(NoStart, cell, below_start, Model(BOOK, box, prices=prices))
        book = Book(["a", "b", "c", "d"], [[1, 0, 1, 1], [0, 0, 1, 2]])
        self.raises_cell(NoStart, 2, below_start, Model(book, [(0, 1), FREE, (None, 1), FREE], prices=[1, 0, 1, 0]))

    def test_no_entries(self):
        self.assertEqual(below_start(Model(Book(["a"], []), [FREE], prices=[1])), ((), ()))

    def test_many_models(self):
        starts = 0
        for model in engine_models(6, 80, seed=81):
            entries = pivots(model.book)
            reduced = reduced_for(model, entries, fractions(model.prices))
            words, bad = [], []
            for entry in entries:
                low, high = model.box[entry]
                first = "low" if low is not None else "high" if high is not None else "zero"
                words.append("low" if reduced[entry] > 0 else "high" if reduced[entry] < 0 else first)
                if reduced[entry] > 0 and low is None or reduced[entry] < 0 and high is None:
                    bad.append(entry)
            if bad:
                self.raises_cell(NoStart, bad[0], below_start, model)
            else:
                self.assertEqual(below_start(model), (tuple(entries), tuple(words)))
                self.assertIs(is_priced(model, below_start(model)), True)
                starts += 1
        self.assertGreater(starts, 15)


class Steps(Case):
    def test_an_answer_is_best(self):
        model = Model(BOOK, [(0, 2), (0, 1), (0, 6)], prices=[1, 0, 0])
        self.assertEqual(below_step(model, ((0, 1), ("low", "low"))), ("best", ((0, 1), ("low", "low")), [1, 0, 0]))

    def test_a_goal_below_its_range(self):
        model = Model(BOOK, [(0, 9), (0, 9), (3, 6)], prices=[2, 1, 0])
        self.assertEqual(below_step(model, ((0, 1), ("low", "low"))), ("swap", ((0, 2), ("low", "low")), [-1, -1, 1]))

    def test_a_goal_above_its_range(self):
        model = Model(BOOK, [(0, 9), (0, 9), (3, 6)], prices=[-2, -1, 0])
        self.assertEqual(below_step(model, ((0, 1), ("high", "high"))), ("swap", ((0, 2), ("high", "high")), [-1, -1, 1]))

    def test_ties_of_quotients(self):
        for price in (0, 1, (1, 2)):
            model = Model(BOOK, [(0, 9), (0, 9), (3, 6)], prices=[price, price, 0])
            self.assertEqual(below_step(model, ((0, 1), ("low", "low")))[1], ((1, 2), ("low", "low")))
        # The quotient is the reduced price divided by that for the goal.
        book = Book(["a", "b", "c"], [[1, 0, 1], [0, 1, 2]])
        model = Model(book, [(0, 9), (0, 9), (3, 6)], prices=[1, 2, 0])
        self.assertEqual(below_step(model, ((0, 1), ("low", "low")))[1], ((1, 2), ("low", "low")))
        model = Model(book, [(0, 9), (0, 9), (3, 6)], prices=[1, (3, 2), 0])
        self.assertEqual(below_step(model, ((0, 1), ("low", "low")))[1], ((0, 2), ("low", "low")))

    def test_only_cells_that_mend_are_candidates(self):
        model = Model(BOOK, [(0, 0), (0, 9), (3, 6)], prices=[0, 5, 0])
        self.assertEqual(below_step(model, ((0, 1), ("low", "low")))[1], ((0, 2), ("low", "low")))
        # b stands at its high end and cannot raise c.
        model = Model(BOOK, [(0, 9), (0, 1), (3, 6)], prices=[5, -1, 0])
        self.assertEqual(below_step(model, ((0, 1), ("low", "high")))[1], ((1, 2), ("high", "low")))
        model = Model(BOOK, [(0, 9), FREE, (3, 6)], prices=[5, 0, 0])
        self.assertEqual(below_step(model, ((0, 1), ("low", "zero")))[1], ((0, 2), ("low", "low")))

    def test_none(self):
        model = Model(BOOK, [(0, 2), (0, 1), (5, 6)], prices=[-1, -1, 0])
        stand = ((0, 1), ("high", "high"))
        self.assertEqual(below_step(model, stand), ("none", stand, [1, 1, -1]))
        model = Model(Book(["a"], []), [(-2, -1)])
        self.assertEqual(below_step(model, ((), ())), ("none", ((), ()), [1]))
        self.assertEqual(below_step(Model(Book(["a"], []), [(1, 2)]), ((), ())), ("none", ((), ()), [-1]))

    def test_many_models(self):
        rng = random.Random(82)
        counts = {"swap": 0, "none": 0, "best": 0}
        for model in engine_models(6, 150, seed=82):
            stands = [stand for stand in stands_of(model) if is_priced(model, stand)]
            for stand in rng.sample(stands, min(6, len(stands))):
                found = below_step(model, stand)
                self.assertEqual(found, slow_below_step(model, stand))
                counts[found[0]] += 1
                if found[0] == "swap":
                    self.assertIs(is_priced(model, found[1]), True)
                    self.assertIs(type(found[2]), list)
        self.assertGreater(min(counts.values()), 10)

    def test_errors(self):
        model = Model(BOOK, [(0, 2), (0, 1), (5, 6)], prices=[-1, 0, 0])
        for function in (below_step, from_below):
            self.raises(NotPriced, function, model, ((0, 1), ("low", "low")))
            for stand in (((0, 3), ("low", "low")), ((1, 0), ("low", "low")), ((0, 1), ("low", "zero")), ((0,), ("low",)),
                          ((0, 1), ("low",))):
                self.raises(BadStand, function, model, stand)


class Runs(Case):
    def test_an_outcome(self):
        model = Model(BOOK, [(0, 9), (0, 9), (3, 6)], prices=[2, 1, 0])
        end = from_below(model, ((0, 1), ("low", "low")))
        self.assertIs(type(end), Outcome)
        self.assertEqual(fields(end), ["best", ((0, 2), ("low", "low")), (0, 3, 3), (1, 0, 1), 3, 1])
        end = from_below(Model(BOOK, [(0, 2), (0, 1), (5, 6)]), ((0, 1), ("low", "low")))
        self.assertEqual([end.kind, end.row, end.price], ["none", (1, 1, -1), None])

    def test_the_kind_and_the_price_of_other_runs(self):
        counts = {}
        rng = random.Random(83)
        for model in engine_models(7, 150, seed=83):
            stands = [stand for stand in stands_of(model) if is_priced(model, stand)]
            end = solve(model)
            for stand in rng.sample(stands, min(4, len(stands))):
                below = from_below(model, stand)
                self.assertEqual((below.kind, below.price), (end.kind, end.price))
                self.assertEqual(fields(below), slow_outcome(model, stand, slow_below_step))
                if below.kind == "none":
                    self.assertIs(shows_none(model, below.row), True)
                key = (below.kind, min(below.steps, 2))
                counts[key] = counts.get(key, 0) + 1
        for key in (("best", 0), ("best", 1), ("best", 2), ("none", 1)):
            self.assertGreater(counts.get(key, 0), 3, counts)

    def test_wide_books(self):
        book = Book(names(16), [[int(k == cell or k > 7) for k in range(16)] for cell in range(8)])
        model = Model(book, [(0, 9)] * 8 + [(cell, None) for cell in range(8)], prices=[1] * 8 + [0] * 8)
        end = from_below(model, below_start(model))
        self.assertEqual([end.kind, end.price], ["best", 7])


if __name__ == "__main__":
    unittest.main()
