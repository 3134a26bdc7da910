"""Points 51 and 52: boxes, what lies in them, and greatest worths."""

import random
import unittest
from fractions import Fraction

from fineststep.boxes import around, greatest_worth, inside, meet, widened
from fineststep.errors import BadSize, BadWeight, EmptyRange
from helpers import Case, fraction, number_of, random_number, random_range, sample_models
from slow import slow_within, slow_worth

FREE = (None, None)


class Around(Case):
    def test_numbers_of_all_kinds(self):
        self.assertEqual(around([0, (1, 2), (-1, 2), 3, (-7, 2), (7, 3)]), [(0, 0), (0, 1), (-1, 0), (3, 3), (-4, -3), (2, 3)])
        self.assertEqual(around([]), [])
        self.assertEqual(around(((1, 2),)), [(0, 1)])
        self.assertEqual(around([(10 ** 30 + 1, 10)]), [(10 ** 29, 10 ** 29 + 1)])

    def test_values_are_a_list_of_tuples(self):
        self.assertIs(type(around([1])), list)
        self.assertIs(type(around([1])[0]), tuple)


class Inside(Case):
    def test_ends_belong_to_the_range(self):
        box = [((-1, 2), (5, 2))]
        for number, expected in (((-1, 2), True), ((5, 2), True), (0, True), (2, True), (3, False), (-1, False),
                                 ((-2, 3), False), ((8, 3), False), ((-1, 3), True)):
            self.assertIs(inside(box, [number]), expected)

    def test_ranges_without_ends(self):
        box = [(None, 0), (1, None), FREE]
        self.assertIs(inside(box, [-10 ** 9, 10 ** 9, (1, 3)]), True)
        self.assertIs(inside(box, [(1, 9), 1, 0]), False)
        self.assertIs(inside(box, [0, (8, 9), 0]), False)
        self.assertIs(inside([], []), True)

    def test_random_boxes(self):
        rng = random.Random(31)
        for _ in range(300):
            box = [random_range(rng) for _ in range(rng.randint(1, 4))]
            numbers = [random_number(rng) for _ in box]
            self.assertIs(inside(box, numbers), slow_within(numbers, box))

    def test_errors(self):
        self.raises(BadSize, inside, [FREE], [])
        self.raises(BadSize, inside, [(1, 0)], [0, 0])
        self.raises_cell(EmptyRange, 1, inside, [(0, 0), ((1, 2), (1, 3)), (1, 0)], [5, 5, 5])
        self.raises_cell(EmptyRange, 0, inside, [(-1, -2)], [0])


class Meet(Case):
    def test_one_box(self):
        box = [(0, 1), (None, (1, 2)), FREE]
        self.assertEqual(meet(box), box)
        self.assertIsNot(meet(box), box)
        self.assertEqual(meet([]), [])
        self.assertEqual(meet(((0, 1),)), [(0, 1)])

    def test_several_boxes(self):
        self.assertEqual(meet([(0, 5)], [(1, None)], [(None, 3)], [FREE]), [(1, 3)])
        self.assertEqual(meet([(0, (7, 2)), FREE, (None, 2)], [((1, 2), 4), FREE, (2, None)]), [((1, 2), (7, 2)), FREE, (2, 2)])
        self.assertEqual(meet([(-5, -1)], [(-3, 0)]), [(-3, -1)])

    def test_random_boxes(self):
        rng = random.Random(32)
        numbers = sorted({Fraction(top, bottom) for top in range(-9, 10) for bottom in (1, 2, 3)})
        for _ in range(200):
            boxes = [[random_range(rng)] for _ in range(rng.randint(1, 4))]
            fitting = [x for x in numbers if all(slow_within([number_of(x)], box) for box in boxes)]
            lows = [fraction(box[0][0]) for box in boxes if box[0][0] is not None]
            highs = [fraction(box[0][1]) for box in boxes if box[0][1] is not None]
            if lows and highs and max(lows) > min(highs):
                self.assertEqual(fitting, [])
                self.raises_cell(EmptyRange, 0, meet, *boxes)
            else:
                low, high = meet(*boxes)[0]
                self.assertEqual(low, number_of(max(lows)) if lows else None)
                self.assertEqual(high, number_of(min(highs)) if highs else None)

    def test_errors_box_by_box(self):
        self.raises_cell(EmptyRange, 1, meet, [(0, 1), (1, 0)], [(0, 1)])
        self.raises(BadSize, meet, [(0, 1), (0, 1)], [(1, 0)], [(1, 0), (0, 0)])
        self.raises_cell(EmptyRange, 0, meet, [(0, 1), (0, 1)], [(1, 0), (0, 0)], [(0, 0)])
        self.raises(BadSize, meet, [(0, 1)], [(0, 1), (1, 0)])
        self.raises(BadSize, meet, [], [FREE])

    def test_no_number_in_all_ranges(self):
        self.raises_cell(EmptyRange, 1, meet, [(0, 1), (0, 1), (0, 0)], [(1, 2), (2, 3), (1, 1)])
        self.raises_cell(EmptyRange, 0, meet, [(0, None)], [(None, (-1, 2))])
        self.raises_cell(EmptyRange, 0, meet, [(0, 1)], [(1, 2)], [(2, 3)])
        # An empty range of a later box is found before the meet of all boxes.
        self.raises_cell(EmptyRange, 1, meet, [(0, 1), FREE], [(2, 3), FREE], [FREE, (1, 0)])
        self.raises(BadSize, meet, [(0, 1)], [(2, 3)], [])
        self.assertEqual(meet([(0, 1)], [(1, 2)]), [(1, 1)])


class Widened(Case):
    def test_ends_move_apart(self):
        self.assertEqual(widened([(0, 2), (None, (5, 2)), FREE, (-1, None)], [1, 2, 3, 0], (1, 2)),
                         [((-1, 2), (5, 2)), (None, (7, 2)), FREE, (-1, None)])

    def test_a_width_of_0_and_weights_of_0(self):
        box = [(0, 2), (None, (5, 2)), ((-1, 3), None)]
        self.assertEqual(widened(box, [1, 2, 3], 0), box)
        self.assertEqual(widened(box, [0, 0, 0], 7), box)
        self.assertEqual(widened(box, (0, (1, 2), (1, 3)), 2), [(0, 2), (None, (7, 2)), (-1, None)])
        self.assertEqual(widened([], [], 0), [])

    def test_errors(self):
        box = [(0, 2), (1, 1)]
        self.raises(BadSize, widened, box, [1], -1)
        self.raises(BadSize, widened, [(1, 0)], [], 0)
        self.raises_cell(EmptyRange, 1, widened, [(0, 0), (1, 0)], [-1, 1], -1)
        self.raises(BadWeight, widened, box, [1, -1], 0)
        self.raises(BadWeight, widened, box, [(-1, 9), 1], 3)
        self.raises(BadWeight, widened, box, [1, 1], -1)
        self.raises(BadWeight, widened, box, [0, 0], (-1, 9))
        self.raises(BadWeight, widened, [], [], -1)


class Worths(Case):
    def test_the_ends_that_are_used(self):
        self.assertEqual(greatest_worth([1, -1], [(0, 2), (3, 4)]), -1)
        self.assertEqual(greatest_worth([-1, 1], [(0, 2), (3, 4)]), 4)
        self.assertEqual(greatest_worth([(1, 2), (-1, 3)], [(None, 3), ((3, 2), None)]), 1)
        self.assertEqual(greatest_worth([2, -1], [(0, 1), (2, 3)]), 0)
        self.assertEqual(greatest_worth([1], [(None, (-1, 2))]), (-1, 2))

    def test_no_end_is_used(self):
        self.assertEqual(greatest_worth([0, 0], [FREE, (5, 6)]), 0)
        self.assertEqual(greatest_worth([], []), 0)

    def test_an_end_that_is_not_there(self):
        self.assertIsNone(greatest_worth([1], [(0, None)]))
        self.assertIsNone(greatest_worth([-1], [(None, 0)]))
        self.assertIsNone(greatest_worth([1, (-1, 2)], [(0, 1), (None, 1)]))
        self.assertIsNone(greatest_worth([1, 1], [(0, None), (0, 1)]))
        self.assertEqual(greatest_worth([0, 1], [(None, None), (0, 1)]), 1)

    def test_models(self):
        rng = random.Random(33)
        for model in sample_models():
            row = [random_number(rng) for _ in model.box]
            worth = slow_worth(row, model.box)
            self.assertEqual(greatest_worth(row, model.box), None if worth is None else number_of(worth))

    def test_errors(self):
        self.raises(BadSize, greatest_worth, [1], [FREE, (1, 0)])
        self.raises(BadSize, greatest_worth, [1, 1], [FREE])
        self.raises_cell(EmptyRange, 2, greatest_worth, [1, 1, 0], [FREE, FREE, (1, 0)])


if __name__ == "__main__":
    unittest.main()
