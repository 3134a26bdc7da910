"""Point 24: the written form of a model."""

import random
import unittest

from fineststep.books import Book
from fineststep.models import Model, same_model
from fineststep.reading import read_model
from fineststep.writing import write_model
from helpers import Case, random_number, sample_books, wide_books
from texts import random_text, seeded


class Written(Case):
    def test_the_example(self):
        text = "entry a from 3 to 3\nentry b whole\nsum c = -1 b + 2 a - 0 b price 0"
        self.assertEqual(write_model(read_model(text)), "entry a at 3\nentry b whole\nsum c = 2 a - b")

    def test_terms(self):
        book = Book(["a", "b", "c", "d"], [[1, 0, -1, 0], [0, 2, 3, 0]])
        self.assertEqual(write_model(Model(book, [(None, None)] * 4)), "entry a\nentry b\nsum c = - a + 3/2 b\nsum d = 0")
        book = Book(["a", "b", "c"], [[2, 0, -1], [0, 1, -3]])
        self.assertEqual(write_model(Model(book, [(None, None)] * 3)), "entry a\nentry b\nsum c = - 1/2 a - 3 b")
        book = Book(["x", "y"], [])
        self.assertEqual(write_model(Model(book, [(None, None)] * 2)), "sum x = 0\nsum y = 0")

    def test_ranges_prices_and_marks(self):
        def tail(low, high, price=0, marks=()):
            model = Model(Book.free(["a"]), [(low, high)], prices=[price], marks=marks)
            return write_model(model)[len("entry a"):]
        self.assertEqual([tail(None, None), tail(0, None), tail(None, 0), tail(0, 1), tail(0, 0), tail((-1, 2), (-1, 2))],
                         ["", " from 0", " to 0", " from 0 to 1", " at 0", " at -1/2"])
        self.assertEqual([tail(None, None, 1), tail(0, 1, (-1, 3)), tail(1, 1, 2, [0]), tail(None, None, 0, [0])],
                         [" price 1", " from 0 to 1 price -1/3", " at 1 price 2 whole", " whole"])

    def test_a_range_after_an_empty_sum(self):
        model = Model(Book(["from", "b"], [[1, 0]]), [(None, None), (1, None)])
        self.assertEqual(write_model(model), "entry from\nsum b = 0 from 1")
        self.assertTrue(same_model(read_model(write_model(model)), model))

    def test_names_that_are_words_of_the_grammar(self):
        model = Model(Book(["to", "at", "b"], [[1, 0, 1], [0, 1, -1]]), [(None, None), (1, None), (0, 0)])
        self.assertEqual(write_model(model), "entry to\nentry at from 1\nsum b = to - at at 0")
        self.assertTrue(same_model(read_model(write_model(model)), model))

    def test_reading_the_written_form_gives_the_same_model(self):
        rng = random.Random(13)
        for book in sample_books() + wide_books():
            box, prices, marks = [], [], []
            for cell in range(book.size):
                low, high = random_number(rng), random_number(rng)
                if low != high and rng.random() < 0.5:
                    low, high = rng.choice([(None, None), (low, None), (None, high)])
                elif low != high:
                    low, high = -20, high
                box.append((low, high))
                prices.append(random_number(rng))
                if type(low) is not tuple and type(high) is not tuple and rng.random() < 0.5:
                    marks.append(cell)
            model = Model(book, box, prices=prices, marks=marks)
            text = write_model(model)
            self.assertTrue(same_model(read_model(text), model))
            self.assertEqual(write_model(read_model(text)), text)

    def test_reading_other_texts_and_writing_them(self):
        rng = seeded(14)
        for _ in range(300):
            model = read_model(random_text(rng))
            self.assertTrue(same_model(read_model(write_model(model)), model))

    def test_numerals_of_400_digits(self):
        text = f"entry a from -{'9' * 400} price 1/{'9' * 400}\nsum b = {'8' * 400} a"
        self.assertEqual(write_model(read_model(text)), text)


if __name__ == "__main__":
    unittest.main()
