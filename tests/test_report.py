"""Point 132: reports of desks."""

import unittest

from fineststep.books import Book
from fineststep.desk import Desk
from fineststep.listing import columns
from fineststep.models import Model
from fineststep.report import report
from helpers import Case, roomy_models, sample_models

BOOK = Book(["a", "b", "c"], [[1, 0, 1], [0, 1, 1]])


class Reports(Case):
    def test_a_best_outcome(self):
        desk = Desk(Model(BOOK, [(0, 2), (0, None), (1, (5, 2))], prices=[1, (1, 2), 0]))
        self.assertEqual(report(desk), [
            "a                        0             0             2",
            "b                        0             1             -",
            "c                        1             1           5/2",
            "best 1/2"])

    def test_no_answer_and_no_least_price(self):
        desk = Desk(Model(BOOK, [(0, 2), (0, 1), (5, 6)]))
        self.assertEqual(report(desk)[3], "none -")
        self.assertEqual(report(desk)[:3], columns(desk.model, desk.outcome.table))
        desk = Desk(Model(BOOK, [(0, None), (0, 1), (None, None)], prices=[-1, 0, 0]))
        self.assertEqual(report(desk)[3], "unbounded -")
        self.assertEqual(report(Desk(Model(BOOK, [(0, 1)] * 3)))[3], "best 0")
        self.assertEqual(report(Desk(Model(BOOK, [(0, 1)] * 3, prices=[-1, -2, -3])))[3], "best -5")

    def test_many_models(self):
        seen = []
        for model in sample_models(6, 40, seed=351) + roomy_models(20, seed=351):
            desk = Desk(model)
            lines = report(desk)
            self.assertEqual(lines[:-1], columns(model, list(desk.outcome.table)))
            kind, price = lines[-1].split(" ")
            self.assertEqual(kind, desk.outcome.kind)
            self.assertEqual(price == "-", desk.outcome.price is None)
            seen.append(kind)
        self.assertEqual(set(seen), {"best", "none", "unbounded"})


if __name__ == "__main__":
    unittest.main()
