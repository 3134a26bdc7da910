"""Point 20: the classes of errors and their fields."""

import inspect
import unittest

from fineststep import errors
from fineststep.errors import BookError
from helpers import Case

ONE_FIELD = {
    "NoCell": "cell", "EmptyRange": "cell", "NoEnd": "cell", "NoStart": "cell", "NotEntry": "cell",
    "MixedModel": "cell", "TooWide": "size", "TooMany": "many", "CoarseBook": "step", "NoAnswer": "row",
    "NoLeast": "turning",
}
NO_FIELD = """ZeroBottom BadName BadSize NotTable NotWhole NotAnswer BadText BadStep NotBasis BadColour BadCrossing
    NotPlain BadSquare BadOrder BadWeb BadStretch Crossing BadSide BadClash BadWeight BadStand NotPriced BadRule
    NotBest NoCut BadCut BadAhead NotRounding BadLot BadChance BadDays NotEven NoDeed BadDeed""".split()


class Errors(Case):
    def test_the_base_class_is_a_value_error(self):
        self.assertEqual(BookError.__bases__, (ValueError,))

    def test_just_the_listed_classes_are_there_and_each_is_a_direct_subclass(self):
        found = {name: value for name, value in vars(errors).items() if inspect.isclass(value)}
        self.assertEqual(sorted(found), sorted(list(ONE_FIELD) + NO_FIELD + ["BookError", "BadLine"]))
        for name, error in found.items():
            if name != "BookError":
                self.assertEqual(error.__bases__, (BookError,), name)

    def test_a_field_holds_the_value(self):
        for name, field in ONE_FIELD.items():
            value = [1, (2, 3)] if name in ("NoAnswer", "NoLeast") else 7
            self.assertIs(getattr(getattr(errors, name)(value), field), value)
        self.assertEqual(errors.NoCell("a").cell, "a")

    def test_a_bad_line_has_two_fields(self):
        error = errors.BadLine(3, 17)
        self.assertEqual((error.line, error.word), (3, 17))

    def test_one_field_classes_take_one_argument(self):
        for name in ONE_FIELD:
            with self.assertRaises(TypeError):
                getattr(errors, name)()
            with self.assertRaises(TypeError):
                getattr(errors, name)(1, 2)

    def test_all_can_be_raised_and_caught_as_book_errors(self):
        for name in ONE_FIELD:
            with self.assertRaises(BookError):
                raise getattr(errors, name)(0)
        for name in NO_FIELD:
            with self.assertRaises(BookError):
                raise getattr(errors, name)("a text")
        with self.assertRaises(BookError):
            raise errors.BadLine(1, 1)

    def test_a_field_may_be_longer_than_what_python_writes(self):
        many = 10 ** 6000
        self.assertEqual(errors.TooMany(many).many, many)


if __name__ == "__main__":
    unittest.main()
