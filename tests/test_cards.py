"""Point 122: cards, and the lot of cards."""

import random
import unittest

from fineststep.books import Book
from fineststep.cards import cards, least_cards, lot_of_cards
from fineststep.days import parted
from fineststep.drawing import draw_up
from fineststep.errors import BadDays, BadSize, CoarseBook, NotEven, NotTable, TooWide
from fineststep.lots import is_lot
from helpers import Case, names, random_table
from test_days import fine_books

BOOK = Book(["a", "b", "c"], [[1, 0, 1], [0, 1, 1]])
HALVES = Book(["a", "b", "c"], [[2, 0, 1], [0, 2, 1]])
HALF = (1, 2)


class Cards(Case):
    def test_cards(self):
        self.assertEqual(cards(BOOK, [HALF, HALF, 1], 2), [[0, 1, 1], [1, 0, 1]])
        self.assertEqual(cards(BOOK, (HALF, HALF, 1), 4), parted(BOOK, [2, 2, 4], 4))
        self.assertEqual(cards(BOOK, [3, 4, 7], 1), [[3, 4, 7]])
        self.assertEqual(cards(BOOK, [3, 4, 7], 2), [[3, 4, 7], [3, 4, 7]])

    def test_tables_that_are_not_even(self):
        for many in (1, 3, 5, 11):
            self.raises(NotEven, cards, BOOK, [HALF, HALF, 1], many)
        self.raises(NotEven, cards, BOOK, [(1, 13), 0, (1, 13)], 12)

    def test_errors_in_their_order(self):
        self.raises_wide(10, TooWide, cards, Book.free(names(10)), [], 0)
        self.raises(BadSize, cards, HALVES, [1, 0], 0)
        self.raises(NotTable, cards, HALVES, [1, 0, 1], 0)
        for many in (0, -1, 13):
            self.raises(BadDays, cards, HALVES, [1, 0, HALF], many)
        self.raises(NotEven, cards, HALVES, [1, 0, HALF], 1)
        self.assertEqual(self.raises(CoarseBook, cards, HALVES, [1, 0, HALF], 2).step, 2)

    def test_the_least_cards(self):
        self.assertEqual([least_cards(table) for table in ([1, 2], [], [HALF, (1, 3), 5], [(5, 6), (-1, 4)])], [1, 1, 6, 12])

    def test_many_tables(self):
        rng = random.Random(311)
        seen = 0
        for book in fine_books(311, 50, most=5):
            table = random_table(rng, book, most=6, bottoms=(1, 2, 3))
            least = least_cards(table)
            for many in range(1, 13):
                if many % least:
                    self.raises(NotEven, cards, book, table, many)
                    continue
                found = cards(book, table, many)
                self.assertEqual(len(found), many)
                self.assertIs(is_lot(book, table, lot_of_cards(found)), True)
                seen += least > 1
        self.assertGreater(seen, 40)


class LotOfCards(Case):
    def test_cards_that_stand_several_times(self):
        self.assertEqual(lot_of_cards([[1, 0], [0, 1], [1, 0]]), [([1, 0], (2, 3)), ([0, 1], (1, 3))])
        self.assertEqual(lot_of_cards([[5], [5]]), [([5], 1)])
        self.assertEqual(lot_of_cards([[HALF, 1], [3, 4], [2, 1], [3, 4]]), [([HALF, 1], (1, 4)), ([3, 4], HALF), ([2, 1], (1, 4))])

    def test_the_order_of_the_first_places(self):
        self.assertEqual([paper for paper, _ in lot_of_cards([[9], [-2], [-1], [9], [3]])], [[9], [-2], [-1], [3]])

    def test_no_card(self):
        self.raises(BadDays, lot_of_cards, [])

    def test_cards_and_drawing_up_agree_on_halves(self):
        table = [HALF, HALF, 1]
        self.assertEqual(lot_of_cards(cards(BOOK, table, 2)), draw_up(BOOK, table))


if __name__ == "__main__":
    unittest.main()
