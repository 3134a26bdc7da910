"""Points 99 and 100: trees, that they hold, and their best whole leaves."""

import itertools
import random
import unittest

from fineststep.books import Book, pivots
from fineststep.branches import branch, tree_best, tree_holds
from fineststep.errors import NoEnd, TooMany
from fineststep.finest import finest_step
from fineststep.lowering import lowest_whole
from fineststep.models import Model, is_whole_answer, price_of, with_box, with_range
from fineststep.running import solve
from helpers import Case, fraction, names, number_of, random_number, random_rows
from slow import slow_span
from wholly import knapsack_models, whole_models

FREE = (None, None)
BOOK = Book(["a", "b", "c"], [[1, 0, 1], [0, 1, 1]])
HALVES = Book(["a", "b", "c"], [[2, 0, 1], [0, 2, 1]])


def slow_least(model):
    """Returns the least price of the whole answers as a Fraction, None if there is none.

    All lists of whole numbers at the marked cells are tried, and the least price of the others is found by eliminating.
    """
    least = None
    for values in itertools.product(*[range(low, high + 1) for low, high in (model.box[cell] for cell in model.marks)]):
        box = list(model.box)
        for cell, value in zip(model.marks, values):
            box[cell] = (value, value)
        span = slow_span(model.book, box, model.prices)
        if span is not None and (least is None or span[0] < least):
            least = span[0]
    return least


def branch_models(seed, many):
    """Returns models with marks at some cells, all and none, whose entries and marked cells have both ends."""
    rng = random.Random(seed)
    models = []
    while len(models) < many:
        size = rng.randint(1, 5)
        how = {"most": rng.choice([1, 2, 3]), "bottoms": rng.choice([(1,), (1, 2)])}
        book = Book(names(size), random_rows(rng, rng.randint(0, min(3, size)), size, **how))
        box, marks, product = [], [], 1
        share = rng.choice([0, 0.5, 0.8, 1])
        for cell in range(size):
            low = rng.randint(-2, 1)
            ends = (low, low + rng.randint(0, 3))
            if rng.random() < share and product * (ends[1] - low + 1) <= 60:
                marks.append(cell)
                product *= ends[1] - low + 1
            elif cell in pivots(book):
                ends = rng.choice([ends, (number_of(low - fraction((1, 2))), (2 * ends[1] + 1, 3) if ends[1] % 3 == 0 else ends[1])])
            else:
                ends = rng.choice([ends, (low, None), (None, ends[1]), FREE, ((2 * low - 1, 2), (2 * ends[1] + 1, 2))])
            box.append(ends)
        models.append(Model(book, box, prices=[random_number(rng) for _ in range(size)], marks=marks))
    return models


class Branch(Case):
    def check(self, model):
        """Makes sure that the tree holds and that its best leaf is a lowest whole answer; returns the tree."""
        tree = branch(model)
        self.assertIs(tree_holds(model, tree), True)
        best = tree_best(tree, model.prices)
        least = slow_least(model)
        self.assertEqual(None if best is None else best[0], None if least is None else number_of(least))
        if best is not None:
            self.assertTrue(is_whole_answer(model, best[1]))
            self.assertEqual(price_of(model, best[1]), best[0])
        return tree

    def test_no_marks_give_one_leaf(self):
        model = Model(HALVES, [(0, 3), (0, 0), (0, 2)], prices=[-1, 0, 0])
        self.assertEqual(self.check(model), [("whole", [3, 0, (3, 2)], [-1, 0, 0])])
        self.assertEqual([node[0] for node in self.check(Model(BOOK, [(0, 1), (0, 1), (3, 4)]))], ["none"])

    def test_a_split(self):
        tree = self.check(Model(HALVES, [(0, 3), (0, 0), (0, 2)], prices=[-1, 0, 0], marks=[0, 2]))
        self.assertEqual(tree[0], ("split", 2, 1))
        self.assertEqual(tree_best(tree, [-1, 0, 0]), (-2, [2, 0, 1]))

    def test_answers_without_a_whole_one(self):
        model = Model(HALVES, [(1, 1), (0, 0), (0, 1)], marks=[0, 2])
        tree = self.check(model)
        self.assertEqual([node[0] for node in tree], ["split", "none", "none"])
        self.assertIsNone(tree_best(tree, model.prices))

    def test_a_single_leaf_with_finest_step_1_and_whole_ends(self):
        rng = random.Random(181)
        kinds = []
        while len(kinds) < 60:
            size = rng.randint(1, 7)
            book = Book(names(size), random_rows(rng, rng.randint(0, min(4, size)), size, most=1, bottoms=(1,)))
            if finest_step(book) != 1:
                continue
            box = []
            for cell in range(size):
                low = rng.randint(-2, 1)
                ends = (low, low + rng.randint(0, 1))
                box.append(ends if cell in pivots(book) else rng.choice([ends, (low, None), (None, 2), FREE]))
            marks = [cell for cell in range(size) if None not in box[cell]]
            model = Model(book, box, prices=[random_number(rng) for _ in range(size)], marks=marks)
            tree = branch(model)
            self.assertEqual((len(tree), tree_holds(model, tree)), (1, True))
            kinds.append(tree[0][0])
        self.assertGreater(kinds.count("whole"), 15)
        self.assertGreater(kinds.count("none"), 10)

    def test_many_models(self):
        kinds = []
        for model in branch_models(182, 80) + knapsack_models(186, 40):
            kinds += [node[0] for node in self.check(model)]
        for kind in ("split", "none", "dear", "whole"):
            self.assertGreater(kinds.count(kind), 3, kind)

    def test_whole_models(self):
        seen = 0
        for model in whole_models(183, 60):
            try:
                tree = branch(model)
            except TooMany:
                continue
            lowest = lowest_whole(model)
            self.assertIs(tree_holds(model, tree), True)
            best = tree_best(tree, model.prices)
            self.assertEqual(None if best is None else best[0], None if lowest is None else lowest[0])
            seen += 1
        self.assertGreater(seen, 25)

    def test_wide_books(self):
        rng = random.Random(184)
        for k in range(6):
            rows = [[int(cell == k) if cell < 7 else rng.randint(-3, 5) for cell in range(16)] for k in range(7)]
            box = [(0, 1)] * 7 + [(rng.randint(-4, 2), rng.randint(3, 9)) for _ in range(9)]
            model = Model(Book(names(16), rows), box, prices=[rng.randint(-5, 5) for _ in range(16)], marks=range(7))
            tree = branch(model)
            self.assertIs(tree_holds(model, tree), True)
            answers = []
            for values in itertools.product((0, 1), repeat=7):
                table = [sum(value * row[cell] for value, row in zip(values, rows)) for cell in range(16)]
                if is_whole_answer(model, table):
                    answers.append(price_of(model, table))
            best = tree_best(tree, model.prices)
            self.assertEqual(None if best is None else best[0], min(answers, default=None))

    def test_long_numbers_stay_short(self):
        rng = random.Random(185)
        top = 10 ** 20 - 1
        rows = [[int(cell == k) if cell < 8 else rng.randint(top // 2, top) for cell in range(16)] for k in range(8)]
        ends = [sum(row[cell] for row in rows) // 2 for cell in range(16)]
        box = [(0, 1)] * 8 + [(end, end + 10 ** 19) for end in ends[8:12]] + [FREE] * 4
        prices = [number_of(fraction((rng.randint(1, top) | 1, 2 ** 60))) for _ in range(16)]
        model = Model(Book(names(16), rows), box, prices=prices, marks=range(7))
        tree = branch(model)
        self.assertIs(tree_holds(model, tree), True)
        numbers = [x for node in tree for part in node[1:] if isinstance(part, list) for x in part]
        parts = [part for x in numbers for part in (x if isinstance(x, tuple) else (x,))]
        self.assertLess(max(map(abs, parts)), 10 ** 4000)

    def test_errors_in_their_order(self):
        # Cell 0 is no entry and not marked.
        book = Book(names(3), [[0, 2, 1]])
        self.raises_cell(NoEnd, 1, branch, Model(book, [FREE, (0, None), FREE], marks=[2]))
        self.raises_cell(NoEnd, 2, branch, Model(book, [FREE, (0, 10 ** 9), (None, 3)], marks=[1, 2]))
        self.raises_cell(NoEnd, 0, branch, Model(book, [(0, None), (5, 6), (7, 8)], marks=[0, 1]))
        self.assertEqual(len(branch(Model(book, [FREE, (0, 1), FREE]))), 1)
        free = Book.free(names(3))
        self.assertEqual(self.raises(TooMany, branch, Model(free, [(1, 201)] * 3, marks=[1])).many, 201)
        self.assertEqual(len(branch(Model(free, [(1, 201)] * 3))), 1)
        self.assertEqual(len(branch(Model(free, [(1, 10), (0, 19), (5, 5)], marks=[0, 1, 2]))), 1)
        self.assertEqual(self.raises(TooMany, branch, Model(free, [(1, 3), (0, 66), (5, 5)], marks=[0, 1, 2])).many, 201)


class TreeHolds(Case):
    """Trees of a model with a tree of three nodes: the best answer is (3, 1, 2), that with c = 1 is (2, 0, 1)."""

    def setUp(self):
        self.model = Model(HALVES, [(0, 3), (0, 3), (0, 2)], prices=[-2, -1, 0], marks=[0, 1, 2])
        self.low = ("whole", [2, 0, 1], [0, 1, -4])
        self.high = ("whole", [3, 1, 2], [-1, 0, -2])
        self.tree = [("split", 2, 1), self.low, self.high]

    def spoilt(self, at, *nodes):
        """Returns whether the tree holds with other nodes in place of node `at`."""
        return tree_holds(self.model, self.tree[:at] + list(nodes) + self.tree[at + 1:])

    def test_the_tree_holds(self):
        self.assertIs(tree_holds(self.model, self.tree), True)
        self.assertEqual(tree_best(self.tree, self.model.prices), (-7, [3, 1, 2]))
        # A dear leaf may stand before the whole leaf that makes it one, and at equal prices.
        self.assertIs(self.spoilt(1, ("dear", [0, 1, -4])), True)
        self.assertIs(self.spoilt(0, ("split", 2, 1)), True)

    def test_a_node_too_many_one_too_few_and_none(self):
        self.assertIs(tree_holds(self.model, self.tree + [self.high]), False)
        self.assertIs(tree_holds(self.model, self.tree + [("split", 2, 1)]), False)
        self.assertIs(tree_holds(self.model, self.tree[:2]), False)
        self.assertIs(tree_holds(self.model, self.tree[:1]), False)
        self.assertIs(tree_holds(self.model, self.tree[1:]), False)
        self.assertIs(tree_holds(self.model, []), False)

    def test_the_order_of_the_two_sides(self):
        self.assertIs(tree_holds(self.model, [self.tree[0], self.high, self.low]), False)

    def test_splits(self):
        unmarked = Model(HALVES, self.model.box, prices=self.model.prices, marks=[0, 1])
        self.assertIs(tree_holds(unmarked, self.tree), False)
        for cell in (3, -1, 17):
            self.assertIs(self.spoilt(0, ("split", cell, 1)), False)
        for floor in (-1, 2, 3, 0, (3, 2), (1, 2)):
            self.assertIs(self.spoilt(0, ("split", 2, floor)), False, floor)

    def test_floors_at_the_ends_of_a_range(self):
        model = Model(Book.free(["a"]), [(0, 2)], prices=[1], marks=[0])
        leaves = [("whole", [0], [1]), ("whole", [1], [1])]
        self.assertIs(tree_holds(model, [("split", 0, 0)] + leaves), True)
        self.assertIs(tree_holds(model, [("split", 0, 1), leaves[0], ("whole", [2], [1])]), True)
        for floor, high in ((-1, 0), (2, 3)):
            self.assertIs(tree_holds(model, [("split", 0, floor), leaves[0], ("whole", [high], [1])]), False)

    def test_ends_none_do_not_matter_for_a_floor(self):
        model = Model(Book.free(["a", "b"]), [FREE, (0, 1)], prices=[0, 1], marks=[0])
        tree = [("split", 0, -7), ("whole", [-7, 0], [0, 1]), ("whole", [-6, 0], [0, 1])]
        self.assertIs(tree_holds(model, tree), True)
        self.assertIs(tree_holds(with_range(model, 0, -7, None), tree), True)
        self.assertIs(tree_holds(with_range(model, 0, -6, None), tree), False)
        self.assertIs(tree_holds(with_range(model, 0, None, -6), tree), True)
        self.assertIs(tree_holds(with_range(model, 0, None, -7), tree), False)

    def test_whole_leaves_spoilt(self):
        # No table; out of the box of the leaf; not whole; not best; reduced prices that do not show it.
        for node in (("whole", [2, 0, 2], [0, 1, -4]), ("whole", [3, 1, 2], [-1, 0, -2]), ("whole", [3, 0, (3, 2)], [0, 1, -4]),
                     ("whole", [1, 1, 1], [0, 1, -4]), ("whole", [2, 0, 1], [-2, -1, 0]), ("whole", [2, 0, 1], [0, 1, -3])):
            self.assertIs(self.spoilt(1, node), False, node)

    def test_a_whole_leaf_must_be_whole_at_the_marks(self):
        model = Model(HALVES, [(0, 3), (0, 0), (0, 2)], prices=[-1, 0, 0], marks=[0, 2])
        self.assertEqual(solve(model).table, (3, 0, (3, 2)))
        self.assertIs(tree_holds(model, [("whole", [3, 0, (3, 2)], [-1, 0, 0])]), False)
        self.assertIs(tree_holds(Model(HALVES, model.box, prices=model.prices, marks=[0]),
                                 [("whole", [3, 0, (3, 2)], [-1, 0, 0])]), True)

    def test_none_leaves(self):
        model = Model(HALVES, [(1, 1), (0, 0), (0, 1)], marks=[0, 2])
        tree = branch(model)
        self.assertIs(tree_holds(model, tree), True)
        for at in (1, 2):
            for row in ([-x for x in tree[at][1]], [0, 0, 0], [1, 1, 1]):
                self.assertIs(tree_holds(model, tree[:at] + [("none", row)] + tree[at + 1:]), False)
        # A row that bars the part of the other side, but not this one.
        self.assertIs(tree_holds(model, [tree[0], tree[2], tree[1]]), False)
        self.assertIs(self.spoilt(1, ("none", [1, 1, -2])), False)

    def test_dear_leaves(self):
        self.assertIs(tree_holds(self.model, [("dear", [0, 0, 0])]), False)
        self.assertIs(tree_holds(self.model, [("dear", [-2, -1, 0])]), False)
        # The worth is -4, the least price of the whole leaves -7.
        self.assertIs(self.spoilt(1, ("dear", [0, 1, -4])), True)
        # No price row behind it; a worth that is too low: -2 * 3 - 3 = -9; no worth at all.
        self.assertIs(self.spoilt(1, ("dear", [0, 1, -3])), False)
        self.assertIs(self.spoilt(1, ("dear", [-2, -1, 0])), False)
        open_model = with_range(self.model, 1, 0, None)
        self.assertIs(tree_holds(with_box(open_model, [(0, 3), (0, None), (0, 2)]), self.tree), True)
        self.assertIs(tree_holds(open_model, [self.tree[0], ("dear", [-2, -1, 0]), self.tree[2]]), False)
        # Two dear leaves, and no whole one.
        self.assertIs(tree_holds(self.model, [self.tree[0], ("dear", [0, 1, -4]), ("dear", [-1, 0, -2])]), False)

    def test_a_dear_leaf_at_the_least_price_and_just_below_it(self):
        model = Model(Book.free(["a", "b"]), [(0, 1), (0, 1)], prices=[1, 1], marks=[0])
        tree = [("split", 0, 0), ("whole", [0, 0], [1, 1]), ("dear", [1, 1])]
        self.assertIs(tree_holds(model, tree), True)
        self.assertIs(tree_holds(model, [tree[0], ("dear", [1, 1]), ("whole", [1, 0], [1, 1])]), False)
        same = Model(model.book, model.box, prices=[0, 1], marks=[0])
        self.assertIs(tree_holds(same, [tree[0], ("dear", [0, 1]), ("whole", [1, 0], [0, 1])]), True)

    def test_nodes_of_another_form(self):
        row, table = [0, 1, -4], [2, 0, 1]
        for node in ((), ("split",), ("split", 0), ("split", 0, 1, 1), ("none",), ("none", row, row), ("dear",), ("dear", row, row),
                     ("whole",), ("whole", table), ("whole", table, row, row), ("leaf", row), ("leaf", table, row), ("", row),
                     ("Whole", table, row), ("other", 0), ("Split", 2, 1), ("", 2, 1), ("none", row[:2]), ("dear", row + [0]), ("dear", []),
                     ("whole", table[:2], row), ("whole", table, row + [0]), ("whole", [], [])):
            for at in range(3):
                self.assertIs(self.spoilt(at, node), False, node)
            self.assertIs(tree_holds(self.model, [node]), False, node)

    def test_wide_models(self):
        model = Model(Book.free(names(16)), [(0, 1)] * 16, prices=[1] * 16, marks=[15])
        self.assertIs(tree_holds(model, [("whole", [0] * 16, [1] * 16)]), True)
        self.assertIs(tree_holds(model, [("whole", [0] * 15 + [1], [1] * 16)]), False)

    def test_deep_trees(self):
        many = 1500
        model = Model(Book.free(["a"]), [(0, many)], prices=[1], marks=[0])
        tree = []
        for floor in range(many):
            tree += [("split", 0, floor), ("whole", [floor], [1])]
        tree.append(("whole", [many], [1]))
        self.assertIs(tree_holds(model, tree), True)
        self.assertIs(tree_holds(model, tree[:-1]), False)


class TreeBest(Case):
    def test_the_first_of_equal_prices(self):
        tree = [("split", 0, 0), ("whole", [0, 5], [0, 0]), ("split", 0, 1), ("whole", [1, 2], [0, 0]), ("whole", [2, 2], [0, 0])]
        self.assertEqual(tree_best(tree, [0, 1]), (2, [1, 2]))
        self.assertEqual(tree_best(tree, [1, 1]), (3, [1, 2]))
        self.assertEqual(tree_best(tree, [-1, 1]), (0, [2, 2]))
        self.assertEqual(tree_best(tree, ((1, 2), (-1, 3))), ((-5, 3), [0, 5]))

    def test_no_whole_leaf(self):
        self.assertIsNone(tree_best([], [1]))
        self.assertIsNone(tree_best([("split", 0, 0), ("none", [1]), ("dear", [1])], [1]))


if __name__ == "__main__":
    unittest.main()
