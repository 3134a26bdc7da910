"""Points 3 to 6: numbers, and how they are written."""

import itertools
import random
import unittest
from fractions import Fraction

from fineststep.errors import BadText, ZeroBottom
from fineststep.exact import (bottom_of, ceiling_of, common_bottom, floor_of, greatest_of, is_whole, least_of, less,
                              minus, nearest, number_text, over, plus, ratio, read_number, times, top_of)
from helpers import Case, fraction, number_of


def samples():
    """Returns numbers of all kinds, also long ones."""
    rng = random.Random(5)
    found = [0, 1, -1, 2, -2, 7, -7, (1, 2), (-1, 2), (3, 2), (-3, 2), (7, 2), (-7, 2), (1, 3), (5, 3), (-5, 3)]
    found += [10 ** 50, -10 ** 50 + 1, (10 ** 60 + 1, 10 ** 40), (-10 ** 60 - 1, 3 ** 90), 2 ** 64, (1, 2 ** 64)]
    for _ in range(30):
        found.append(number_of(Fraction(rng.randint(-20, 20), rng.randint(1, 12))))
    return found


class Numbers(Case):
    def test_the_example_of_ratio(self):
        self.assertEqual(ratio(6, -4), (-3, 2))

    def test_ratio_gives_the_only_form(self):
        self.assertEqual([ratio(6, 3), ratio(-6, 3), ratio(6, -3), ratio(-6, -3)], [2, -2, -2, 2])
        self.assertEqual([ratio(0, 5), ratio(0, -5), ratio(5, 1), ratio(5, -1)], [0, 0, 5, -5])
        self.assertEqual([ratio(2, 4), ratio(-2, -4), ratio(1, 2), ratio(1, -2)], [(1, 2), (1, 2), (1, 2), (-1, 2)])
        self.assertEqual(ratio(10 ** 40, 10 ** 39), 10)
        self.assertEqual(ratio(6 * 10 ** 100, -4 * 10 ** 100), (-3, 2))
        for top in range(-12, 13):
            for bottom in list(range(-12, 0)) + list(range(1, 13)):
                number = ratio(top, bottom)
                self.assert_number(number)
                self.assertEqual(number, number_of(Fraction(top, bottom)))

    def test_ratio_refuses_a_bottom_of_0(self):
        for top in (0, 1, -5):
            self.raises(ZeroBottom, ratio, top, 0)

    def test_top_and_bottom(self):
        self.assertEqual([top_of(5), bottom_of(5), top_of(0), bottom_of(0)], [5, 1, 0, 1])
        self.assertEqual([top_of((-7, 2)), bottom_of((-7, 2))], [-7, 2])

    def test_the_four_operations(self):
        for x in samples():
            for y in samples():
                a, b = fraction(x), fraction(y)
                found = [plus(x, y), minus(x, y), times(x, y)]
                expected = [a + b, a - b, a * b]
                if b != 0:
                    found.append(over(x, y))
                    expected.append(a / b)
                for number, value in zip(found, expected):
                    self.assert_number(number)
                    self.assertEqual(number, number_of(value))

    def test_whole_results_are_ints(self):
        self.assertEqual([plus((1, 2), (1, 2)), minus((3, 2), (1, 2)), times((2, 3), (3, 2)), over((1, 2), (1, 4))],
                         [1, 1, 1, 2])
        self.assertEqual([plus((1, 2), (-1, 2)), minus((1, 2), (1, 2)), times(0, (1, 2)), over(0, (1, 2))], [0] * 4)

    def test_division_by_0(self):
        for x in (0, 1, (1, 2), (-7, 3)):
            self.raises(ZeroBottom, over, x, 0)

    def test_less(self):
        for x in samples():
            for y in samples():
                self.assertIs(less(x, y), fraction(x) < fraction(y))

    def test_is_whole(self):
        self.assertEqual([is_whole(0), is_whole(-5), is_whole(10 ** 30), is_whole((1, 2)), is_whole((-5, 3))],
                         [True, True, True, False, False])


class Rounded(Case):
    def test_the_example_of_floor_ceiling_and_nearest(self):
        self.assertEqual([floor_of((-7, 2)), ceiling_of((-7, 2)), nearest((-7, 2)), nearest((5, 3))], [-4, -3, -3, 2])

    def test_halves_go_up(self):
        self.assertEqual([nearest((1, 2)), nearest((-1, 2)), nearest((3, 2)), nearest((-3, 2))], [1, 0, 2, -1])

    def test_numbers_of_all_kinds(self):
        for x in samples():
            value = fraction(x)
            found = [floor_of(x), ceiling_of(x), nearest(x)]
            self.assertEqual(found, [value.__floor__(), value.__ceil__(), (value + Fraction(1, 2)).__floor__()])
            for number in found:
                self.assertIs(type(number), int)

    def test_common_bottom(self):
        self.assertEqual(common_bottom([]), 1)
        self.assertEqual(common_bottom([0, 5, -3]), 1)
        self.assertEqual(common_bottom([(1, 4), (5, 6), 7]), 12)
        self.assertEqual(common_bottom([(1, 2 ** 70), (1, 3 ** 50)]), 2 ** 70 * 3 ** 50)

    def test_least_and_greatest(self):
        self.assertIsNone(least_of([]))
        self.assertIsNone(greatest_of([]))
        self.assertEqual([least_of([0]), greatest_of([0])], [0, 0])
        self.assertEqual([least_of([(1, 2), (1, 3), (2, 5)]), greatest_of([(1, 2), (1, 3), (2, 5)])], [(1, 3), (1, 2)])
        self.assertEqual([least_of([3, (-7, 2), -3]), greatest_of([(-7, 2), -3, (-10, 3)])], [(-7, 2), -3])
        numbers = samples()
        self.assertEqual(least_of(numbers), min(numbers, key=fraction))
        self.assertEqual(greatest_of(numbers), max(numbers, key=fraction))


class Written(Case):
    def test_forms(self):
        self.assertEqual([number_text(x) for x in (0, 12, -7, (-7, 2), (1, 3))], ["0", "12", "-7", "-7/2", "1/3"])

    def test_reading_gives_the_number_again(self):
        for x in samples():
            self.assertEqual(read_number(number_text(x)), x)
            self.assert_number(read_number(number_text(x)))

    def test_what_is_not_a_written_form(self):
        bad = ["", "-", "/", "-0", "+1", "01", "-01", "00", " 1", "1 ", "1 2", "- 1", "--1", "1-", "1/1", "2/4", "1/0",
               "0/1", "0/2", "-0/2", "0/0", "-1/1", "4/2", "1/-2", "1/+2", "1/02", "01/2", "1/", "/2", "-/2", "1//2",
               "1/2/3", "1 /2", "1/ 2", "1.5", "1e3", "a", "1a", "0x1", "1_0", "1,0", "\n", "1\n", "\n1", "1/2\n", "1\n/2"]
        for text in bad:
            self.raises(BadText, read_number, text)

    def test_bottoms_of_zeros(self):
        for many in (1, 2, 3, 4, 399, 400, 401):
            for top in ("1", "0", "00", "-3", "-0", "12"):
                self.raises(BadText, read_number, top + "/" + "0" * many)

    def test_leading_zeros(self):
        for text in ("007", "-007", "00", "-00", "000/5", "1/03", "1/003", "01/3", "-01/03", "0" * 400, "1/" + "0" * 399 + "3"):
            self.raises(BadText, read_number, text)

    def test_all_short_texts(self):
        values = list(range(-999, 10000))
        values += [ratio(top, bottom) for top in range(-9, 100) for bottom in range(1, 100)]
        forms = {number_text(value): value for value in values}
        for many in range(5):
            for signs in itertools.product("0123-/", repeat=many):
                text = "".join(signs)
                if text in forms:
                    self.assertEqual(read_number(text), forms[text])
                else:
                    self.raises(BadText, read_number, text)

    def test_what_is_one(self):
        good = {"0": 0, "1": 1, "-1": -1, "10": 10, "-1/2": (-1, 2), "1/2": (1, 2), "10/3": (10, 3), "-100/7": (-100, 7)}
        for text, number in good.items():
            self.assertEqual(read_number(text), number)

    def test_numerals_have_at_most_400_digits(self):
        most = "1" + "0" * 399
        self.assertEqual(read_number(most), 10 ** 399)
        self.assertEqual(read_number("-" + most), -10 ** 399)
        self.assertEqual(read_number("9" * 400 + "/" + most), (10 ** 400 - 1, 10 ** 399))
        self.assertEqual(number_text(read_number("-" + "9" * 400 + "/" + most)), "-" + "9" * 400 + "/" + most)
        for text in (most + "0", "-" + most + "0", "1/" + most + "0", most + "0/3", "0" * 401, "9" * 5000, "1/" + "9" * 5000):
            self.raises(BadText, read_number, text)

    def test_long_numbers_in_all_operations(self):
        x, y = (10 ** 300 + 1, 3 ** 200), (-10 ** 250 - 7, 7 ** 150)
        for function, value in ((plus, fraction(x) + fraction(y)), (minus, fraction(x) - fraction(y)),
                                (times, fraction(x) * fraction(y)), (over, fraction(x) / fraction(y))):
            self.assertEqual(function(x, y), number_of(value))
        self.assertEqual(floor_of((10 ** 200 + 1, 10)), 10 ** 199)
        self.assertEqual(ceiling_of((10 ** 200 + 1, 10)), 10 ** 199 + 1)
        self.assertEqual(nearest((-10 ** 200 - 5, 10)), -10 ** 199)
        self.assertIs(less((10 ** 200, 10 ** 200 + 1), (10 ** 200 + 1, 10 ** 200 + 2)), True)


if __name__ == "__main__":
    unittest.main()
