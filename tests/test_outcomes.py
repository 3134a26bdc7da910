"""Point 72: the fields of an outcome."""

import unittest

from fineststep.outcomes import Outcome
from helpers import Case


class Outcomes(Case):
    def test_fields(self):
        stand = ((0, 2), ("low", "high"))
        end = Outcome("best", stand, [0, 1, (1, 2)], [(1, 2), 0, 0], (3, 2), 7)
        self.assertEqual([end.kind, end.stand, end.table, end.row, end.price, end.steps],
                         ["best", stand, (0, 1, (1, 2)), ((1, 2), 0, 0), (3, 2), 7])
        self.assertEqual([type(end.table), type(end.row)], [tuple, tuple])

    def test_lists_are_not_kept(self):
        table, row = [0, 1], [1, 0]
        end = Outcome("none", ((), ()), table, row, None, 0)
        table[0] = row[0] = 9
        self.assertEqual([end.table, end.row, end.price], [(0, 1), (1, 0), None])

    def test_a_ring_has_an_empty_row(self):
        self.assertEqual(Outcome("ring", ((), ()), (0,), [], None, 3).row, ())


if __name__ == "__main__":
    unittest.main()
