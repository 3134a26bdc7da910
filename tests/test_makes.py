"""Point 50: books from stretches and from nests."""

import random
import unittest

from fineststep.books import pivots
from fineststep.errors import BadName, BadSize, BadStretch, Crossing, NoCell
from fineststep.finest import finest_step
from fineststep.makes import nest_book, stretch_book
from helpers import Case, names


class Stretches(Case):
    def test_some(self):
        book = stretch_book(["a", "b", "c"], [("d", 0, 1), ("e", 2, 2), ("f", 0, 2)])
        self.assertEqual(book.names, ("a", "b", "c", "d", "e", "f"))
        self.assertEqual(book.frame, ((1, 0, 0, 1, 0, 1), (0, 1, 0, 1, 0, 1), (0, 0, 1, 0, 1, 1)))

    def test_no_stretches(self):
        self.assertEqual(stretch_book(["a", "b"], []).frame, ((1, 0), (0, 1)))
        self.assertEqual(stretch_book(("a",), ()).frame, ((1,),))

    def test_many(self):
        rng = random.Random(42)
        for _ in range(60):
            many = rng.randint(1, 5)
            stretches = []
            for k in range(rng.randint(0, 4)):
                first, last = sorted([rng.randrange(many), rng.randrange(many)])
                stretches.append((f"s{k}", first, last))
            book = stretch_book(names(many), stretches)
            self.assertEqual(pivots(book), list(range(many)))
            for entry, row in enumerate(book.frame):
                self.assertEqual(row, tuple([int(k == entry) for k in range(many)]
                                            + [int(first <= entry <= last) for _, first, last in stretches]))
            self.assertEqual(finest_step(book), 1)

    def test_sixteen_cells(self):
        self.assertEqual(stretch_book(names(8), [(f"s{k}", 0, k) for k in range(8)]).size, 16)

    def test_errors(self):
        for first, last in ((0, 2), (2, 2), (-1, 0), (1, 0), (-1, -1), (0, -1), (5, 9)):
            self.raises(BadStretch, stretch_book, ["A", "A"], [("d", 0, 1), ("", first, last)])
        self.raises(BadStretch, stretch_book, [], [("a", 0, 0)])
        self.raises(BadSize, stretch_book, [], [])
        self.raises(BadSize, stretch_book, names(16), [("A", 0, 15)])
        self.raises(BadSize, stretch_book, names(17), [])
        self.raises(BadName, stretch_book, ["a", "b"], [("A", 0, 1)])
        self.raises(BadName, stretch_book, ["a", "b"], [("a", 0, 1)])
        self.raises(BadName, stretch_book, ["a", "b"], [("d", 0, 1), ("d", 0, 0)])
        self.raises(BadName, stretch_book, ["a", ""], [])


class Nests(Case):
    def test_some(self):
        book = nest_book(["a", "b", "c"], [("d", [1, 0]), ("e", [])], [("f", [2, 1, 2, 2]), ("g", [0, 1, 2])])
        self.assertEqual(book.names, ("a", "b", "c", "d", "e", "f", "g"))
        self.assertEqual(book.frame, ((1, 0, 0, 1, 0, 0, 1), (0, 1, 0, 1, 0, 1, 1), (0, 0, 1, 0, 0, 1, 1)))

    def test_no_sets(self):
        self.assertEqual(nest_book(["a", "b"], [], []).frame, ((1, 0), (0, 1)))

    def test_no_entries(self):
        book = nest_book([], [("a", [])], [("b", [])])
        self.assertEqual((book.names, book.frame), (("a", "b"), ()))
        self.raises(BadSize, nest_book, [], [], [])

    def test_sets_of_two_nests_may_cross(self):
        book = nest_book(["a", "b", "c"], [("d", [0, 1])], [("e", [1, 2])])
        self.assertEqual(book.frame, ((1, 0, 0, 1, 0), (0, 1, 0, 1, 1), (0, 0, 1, 0, 1)))

    def test_sets_of_one_nest_that_do_not_cross(self):
        sets = [("d", [0, 1]), ("e", [1, 0, 1]), ("f", [0]), ("g", [2]), ("h", []), ("i", [2, 1, 0]), ("j", [])]
        self.assertEqual(nest_book(["a", "b", "c"], sets, []).size, 10)
        self.assertEqual(nest_book(["a", "b", "c"], [], sets).size, 10)

    def test_crossing(self):
        crossing = [("d", [0, 1]), ("e", [1, 2])]
        for first, second in ((crossing, []), ([], crossing), (crossing[::-1], crossing), ([("f", [0])], crossing),
                              ([("d", [0, 1, 2]), ("e", []), ("f", [3, 2, 2])], [])):
            self.raises(Crossing, nest_book, names(4), first, second)

    def test_many(self):
        rng = random.Random(43)
        made = 0
        for _ in range(400):
            many = rng.randint(1, 4)
            nests = [[(f"{word}{k}", [rng.randrange(many) for _ in range(rng.randint(0, 3))])
                      for k in range(rng.randint(0, 3))] for word in ("x", "y")]
            if any(self.cross(one[1], two[1]) for nest in nests for one in nest for two in nest):
                self.raises(Crossing, nest_book, names(many), *nests)
                continue
            book = nest_book(names(many), *nests)
            self.assertEqual(pivots(book), list(range(many)))
            for entry, row in enumerate(book.frame):
                self.assertEqual(row[many:], tuple(int(entry in numbers) for _, numbers in nests[0] + nests[1]))
            if book.size <= 9:
                self.assertEqual(finest_step(book), 1)
                made += 1
        self.assertGreater(made, 50)

    def cross(self, first, second):
        """Returns True if the two sets cross."""
        one, two = set(first), set(second)
        return bool(one & two) and not one <= two and not two <= one

    def test_the_order_of_the_errors(self):
        crossing = [("A", [0, 1]), ("A", [1, 2])]
        self.raises_cell(NoCell, 3, nest_book, names(3), crossing + [("a", [0, 3, -1])], [("b", [9])])
        self.raises_cell(NoCell, -1, nest_book, names(3), crossing, [("b", [1]), ("c", [-1, 3])])
        self.raises_cell(NoCell, 0, nest_book, [], [("a", [0])], [])
        self.raises(Crossing, nest_book, names(3), crossing, [])
        self.raises(Crossing, nest_book, ["A", "A", "A"], [], crossing)
        self.raises(BadSize, nest_book, names(15), [("A", []), ("B", [])], [])
        self.raises(BadName, nest_book, names(3), [("A", [0])], [])
        self.raises(BadName, nest_book, names(3), [("a", [0])], [("a", [1])])
        self.raises(BadName, nest_book, names(3), [("c0", [0])], [])


if __name__ == "__main__":
    unittest.main()
