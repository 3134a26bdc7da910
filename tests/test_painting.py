"""Point 36: cells with colours."""

import itertools
import random
import unittest

from fineststep.books import Book, other_side
from fineststep.errors import BadColour, BadSize, NoCell, TooWide
from fineststep.painting import paint
from helpers import Case, names, sample_books, signed, slow_turnings, wide_books

BOOK = Book(["a", "b", "c"], [[2, 1, 0], [0, 3, 3]])
COLOURS = ("free", "up", "shut")
EXCHANGED = {"free": "shut", "shut": "free", "up": "up"}


def keeping(rows, cell, colours, zero):
    """Returns the signed rows that keep the colours."""
    found = []
    for row in rows:
        others = [k for k in range(len(row)) if k != cell]
        if (row[cell] > 0 and all(row[k] >= 0 for k in others if colours[k] == "up")
                and all(row[k] == 0 for k in others if colours[k] == zero)):
            found.append(row)
    return found


class Painted(Case):
    def check(self, book, cell, colours):
        """Makes sure that just one side keeps the colours and that its first row is returned."""
        here = keeping(signed(slow_turnings(book)), cell, colours, "shut")
        there = keeping(signed(slow_turnings(other_side(book))), cell, colours, "free")
        self.assertNotEqual(len(here) > 0, len(there) > 0)
        self.assertEqual(paint(book, cell, colours), ("here", here[0]) if here else ("there", there[0]))

    def test_each_colour_alone(self):
        self.assertEqual(paint(BOOK, 0, ["free"] * 3), ("here", [2, 1, 0]))
        self.assertEqual(paint(BOOK, 2, ["free"] * 3), ("here", [-2, 0, 1]))
        self.assertEqual(paint(BOOK, 0, ["up"] * 3), ("here", [2, 1, 0]))
        self.assertEqual(paint(BOOK, 2, ["up"] * 3), ("here", [0, 1, 1]))
        self.assertEqual(paint(BOOK, 0, ["shut"] * 3), ("there", [1, -2, 2]))
        self.assertEqual(paint(BOOK, 1, ["shut"] * 3), ("there", [-1, 2, -2]))

    def test_mixed_colours(self):
        self.assertEqual(paint(BOOK, 0, ["free", "shut", "free"]), ("here", [2, 0, -1]))
        self.assertEqual(paint(BOOK, 0, ["free", "shut", "up"]), ("there", [1, -2, 2]))
        self.assertEqual(paint(BOOK, 2, ["up", "shut", "up"]), ("there", [1, -2, 2]))
        self.assertEqual(paint(BOOK, 1, ["shut", "shut", "free"]), ("here", [0, 1, 1]))

    def test_any_string_at_the_cell_itself(self):
        for word in ("free", "up", "shut", "", "red", "here"):
            self.assertEqual(paint(BOOK, 0, [word, "shut", "up"]), ("there", [1, -2, 2]))
            self.assertEqual(paint(BOOK, 1, ["shut", word, "free"]), ("here", [0, 1, 1]))

    def test_the_free_book_and_the_book_of_zeros(self):
        self.assertEqual(paint(Book.free(names(3)), 1, ["shut"] * 3), ("here", [0, 1, 0]))
        self.assertEqual(paint(Book(names(3), []), 1, ["free"] * 3), ("there", [0, 1, 0]))
        self.assertEqual(paint(Book(["a"], []), 0, [""]), ("there", [1]))

    def test_all_colours_of_small_books(self):
        for book in sample_books(4, 12):
            for cell in range(book.size):
                for colours in itertools.product(COLOURS, repeat=book.size):
                    self.check(book, cell, list(colours))

    def test_other_books(self):
        rng = random.Random(24)
        for book in sample_books(7, 40, seed=25):
            for _ in range(4):
                self.check(book, rng.randrange(book.size), [rng.choice(COLOURS) for _ in range(book.size)])

    def test_here_and_there_change_places_on_the_other_side(self):
        rng = random.Random(26)
        for book in sample_books(6, 40):
            cell = rng.randrange(book.size)
            colours = [rng.choice(COLOURS) for _ in range(book.size)]
            place, row = paint(book, cell, colours)
            other_place, other_row = paint(other_side(book), cell, [EXCHANGED[colour] for colour in colours])
            self.assertEqual(other_row, row)
            self.assertEqual({place, other_place}, {"here", "there"})

    def test_errors(self):
        for cell in (-1, 3):
            self.raises_cell(NoCell, cell, paint, BOOK, cell, [])
        for colours in ([], ["up", "up"], ["up"] * 4, ["red"] * 2):
            self.raises(BadSize, paint, BOOK, 0, colours)
        for colours in (["up", "red", "up"], ["up", "up", ""], ["red", "up", "Up"], ["up", "up", "free "]):
            self.raises(BadColour, paint, BOOK, 0, colours)
        for book in wide_books():
            self.raises_wide(book.size, TooWide, paint, book, -1, [])


if __name__ == "__main__":
    unittest.main()
