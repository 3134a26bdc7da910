"""Points 7 and 18: rows."""

import random
import unittest

from fineststep.rows import added, agrees, before, dot, negative, primitive, scaled, support
from helpers import Case, fraction, fractions, numbers_of, number_of, random_rows, slow_agrees, slow_primitive


class Rows(Case):
    def test_support(self):
        self.assertEqual([support([]), support([0, 0]), support([0, (1, 2), 0, -3])], [[], [], [1, 3]])
        self.assertEqual(support((5, 0, -1)), [0, 2])

    def test_agrees(self):
        self.assertTrue(agrees([], []))
        self.assertTrue(agrees([0, 0], [0, 0]))
        self.assertTrue(agrees([0, 0], [1, -1]))
        self.assertTrue(agrees([0, (-1, 2)], [5, -3]))
        self.assertFalse(agrees([0, (1, 2)], [5, -3]))
        self.assertFalse(agrees([1, 0], [0, 1]))
        self.assertFalse(agrees([1, 1], [1, 0]))
        rng = random.Random(3)
        for _ in range(200):
            first, second = random_rows(rng, 2, 3)
            self.assertIs(agrees(first, second), slow_agrees(first, second))

    def test_dot(self):
        self.assertEqual([dot([], []), dot([0, 0], [1, 2]), dot([1, (1, 2)], [3, (1, 3)])], [0, 0, (19, 6)])
        self.assertEqual(dot([(1, 2), (1, 2)], [1, 1]), 1)

    def test_negative_scaled_added(self):
        self.assertEqual(negative([1, 0, (-1, 2)]), [-1, 0, (1, 2)])
        self.assertEqual(negative([]), [])
        self.assertEqual(scaled([1, 0, (-1, 2)], -2), [-2, 0, 1])
        self.assertEqual(scaled([1, (3, 2)], 0), [0, 0])
        self.assertEqual(scaled([2, (3, 2)], (1, 2)), [1, (3, 4)])
        self.assertEqual(added([1, (1, 2)], [-1, (1, 2)]), [0, 1])
        self.assertEqual(added([], []), [])

    def test_random_rows(self):
        rng = random.Random(4)
        for _ in range(100):
            first, second = random_rows(rng, 2, 4)
            a, b = fractions(first), fractions(second)
            self.assertEqual(dot(first, second), number_of(sum(x * y for x, y in zip(a, b))))
            self.assertEqual(added(first, second), numbers_of(x + y for x, y in zip(a, b)))
            self.assertEqual(scaled(first, second[0]), numbers_of(x * b[0] for x in a))
            self.assertEqual(negative(first), numbers_of(-x for x in a))

    def test_the_example_of_primitive(self):
        self.assertEqual(primitive([0, (-1, 2), 3]), [0, 1, -6])

    def test_primitive(self):
        self.assertEqual([primitive([]), primitive([0, 0])], [[], [0, 0]])
        self.assertEqual([primitive([6, -4]), primitive([-6, 4]), primitive([0, -5])], [[3, -2], [3, -2], [0, 1]])
        self.assertEqual(primitive([(1, 2), (1, 3)]), [3, 2])
        self.assertEqual(primitive([10 ** 40, -3 * 10 ** 40]), [1, -3])
        rng = random.Random(6)
        for _ in range(200):
            row = random_rows(rng, 1, 4)[0]
            self.assertEqual(primitive(row), slow_primitive(fractions(row)))
            self.assert_numbers(primitive(row))

    def test_before(self):
        self.assertTrue(before([1, 2], [1, 3]))
        self.assertFalse(before([1, 3], [1, 2]))
        self.assertFalse(before([1, 2], [1, 2]))
        self.assertTrue(before([(1, 3)], [(1, 2)]))
        self.assertTrue(before([(-7, 2), 5], [-3, 0]))

    def test_before_with_unlike_lengths(self):
        self.assertFalse(before([], []))
        self.assertTrue(before([], [0]))
        self.assertTrue(before([], [-5]))
        self.assertFalse(before([0], []))
        self.assertTrue(before([1, 2], [1, 2, -9]))
        self.assertFalse(before([1, 2, -9], [1, 2]))
        self.assertTrue(before([1, 1, 9], [1, 2]))
        self.assertFalse(before([2], [1, 2, 3]))

    def test_before_is_an_order(self):
        rng = random.Random(7)
        lists = [random_rows(rng, 1, rng.randint(0, 3))[0] for _ in range(40)]
        for first in lists:
            for second in lists:
                expected = [fraction(x) for x in first] < [fraction(x) for x in second]
                self.assertIs(before(first, second), expected)


if __name__ == "__main__":
    unittest.main()
