"""Points 115 and 116: walks between whole answers, and cheaper moves."""

import random
import unittest

from fineststep.agreeing import agreeing_parts
from fineststep.books import Book, is_table, pivots
from fineststep.errors import BadSize, CoarseBook, NotAnswer, NotTable, NotWhole, TooMany, TooWide
from fineststep.finest import finest_step
from fineststep.models import Model, is_answer
from fineststep.moves import cheaper_move, walk_between
from fineststep.turnings import turnings
from helpers import Case, names, random_number, random_rows, signed
from slow import slow_within
from wholly import slow_price, whole_tables_at

FREE = (None, None)
BOOK = Book(["a", "b", "c"], [[1, 0, 1], [0, 1, 1]])
HALVES = Book(["a", "b", "c"], [[2, 0, 1], [0, 2, 1]])
OPEN = Model(BOOK, [FREE] * 3)


def fine_models(seed, many, most=5):
    """Returns models of books with finest step 1, whose entries have both ends, and their whole tables in the box."""
    rng = random.Random(seed)
    found = []
    while len(found) < many:
        size = rng.randint(1, most)
        book = Book(names(size), random_rows(rng, rng.randint(0, min(3, size)), size, most=1, bottoms=(1,)))
        if finest_step(book) != 1:
            continue
        box = []
        for cell in range(size):
            low = rng.randint(-2, 1)
            ends = (low, low + rng.randint(0, 4))
            box.append(ends if cell in pivots(book) else rng.choice([ends, (low, None), (None, 3), FREE, ((2 * low - 1, 2), None)]))
        model = Model(book, box, prices=[random_number(rng) for _ in range(size)])
        ranges = [range(low, high + 1) for low, high in (box[entry] for entry in pivots(book))]
        answers = [table for table in whole_tables_at(book, ranges) if slow_within(table, box)]
        if answers:
            found.append((model, answers))
    return found


class Walks(Case):
    def test_equal_tables(self):
        self.assertEqual(walk_between(OPEN, [1, 2, 3], [1, 2, 3]), [[1, 2, 3]])
        self.assertEqual(walk_between(Model(Book(names(2), []), [FREE] * 2), [0, 0], (0, 0)), [[0, 0]])

    def test_parts_that_come_several_times(self):
        # The parts of [3, -1, 2] are [1, -1, 0] once and [1, 0, 1] twice, in the order of their supports.
        self.assertEqual(agreeing_parts(BOOK, [3, -1, 2]), [([1, -1, 0], 1), ([1, 0, 1], 2)])
        self.assertEqual(walk_between(OPEN, [0, 0, 0], (3, -1, 2)), [[0, 0, 0], [1, -1, 0], [2, -1, 1], [3, -1, 2]])
        self.assertEqual(walk_between(OPEN, [3, -1, 2], [0, 0, 0]), [[3, -1, 2], [2, 0, 2], [1, 0, 1], [0, 0, 0]])

    def test_sums_of_200_and_201(self):
        walk = walk_between(OPEN, [0, 0, 0], [150, 50, 200])
        self.assertEqual((len(walk), walk[0], walk[-1]), (201, [0, 0, 0], [150, 50, 200]))
        self.assertEqual(self.raises(TooMany, walk_between, OPEN, [0, 0, 0], [150, 51, 201]).many, 201)
        self.assertEqual(self.raises(TooMany, walk_between, OPEN, [0, 0, 0], [-10 ** 9, 10 ** 9, 0]).many, 10 ** 9)

    def test_all_tables_of_a_walk_are_answers(self):
        rng = random.Random(271)
        long = 0
        for model, answers in fine_models(271, 100):
            start, end = rng.choice([(answers[0], answers[-1]), (answers[-1], answers[0]), rng.choices(answers, k=2)])
            walk = walk_between(model, start, end)
            self.assertEqual((walk[0], walk[-1]), (start, end))
            self.assertTrue(all(is_answer(model, table) for table in walk))
            steps = [[y - x for x, y in zip(here, there)] for here, there in zip(walk, walk[1:])]
            parts = agreeing_parts(model.book, [y - x for x, y in zip(start, end)])
            self.assertEqual(steps, [row for row, times in parts for _ in range(times)])
            long += len(walk) > 3
        self.assertGreater(long, 10)

    def test_each_error_of_the_start_comes_ahead_of_those_of_the_end(self):
        model = Model(HALVES, [(0, 9)] * 3)
        wide = Model(Book.free(names(10)), [FREE] * 10)
        self.raises_wide(10, TooWide, walk_between, wide, [], [])
        good = [2, 0, 1]
        bad = [(BadSize, [2, 0]), (NotTable, [2, 0, 2]), (NotAnswer, [-2, 0, -1]), (NotWhole, [1, 0, (1, 2)])]
        for k, (error, start) in enumerate(bad):
            self.raises(error, walk_between, model, start, good)
            self.raises(error, walk_between, model, good, start)
            for _, end in bad[:k] + bad[k + 1:]:
                self.raises(error, walk_between, model, start, end)
        # A table that is out of the box and not whole, and one that is no table and out of the box.
        self.raises(NotAnswer, walk_between, model, [-1, 0, (-1, 2)], good)
        self.raises(NotTable, walk_between, model, [-1, 0, (1, 2)], good)

    def test_any_number_must_be_whole(self):
        # Marks make no difference: they are not asked for, and they are not enough.
        for marks in ((), (0, 1)):
            self.raises(NotWhole, walk_between, Model(HALVES, [FREE] * 3, marks=marks), [1, 0, (1, 2)], [0, 0, 0])

    def test_coarse_books_come_behind_both(self):
        model = Model(HALVES, [(0, 9)] * 3)
        self.assertEqual(self.raises(CoarseBook, walk_between, model, [2, 0, 1], [0, 2, 1]).step, 2)
        self.raises(NotWhole, walk_between, model, [2, 0, 1], [1, 0, (1, 2)])
        far = Model(HALVES, [FREE] * 3)
        self.raises(CoarseBook, walk_between, far, [0, 0, 0], [2000, 0, 1000])


class CheaperMoves(Case):
    def test_the_first_one(self):
        model = Model(BOOK, [(0, 2), (0, None), (1, 3)], prices=[1, (1, 2), 0])
        self.assertEqual(cheaper_move(model, [1, 1, 2]), [-1, 1, 0])
        self.assertEqual(cheaper_move(model, (1, 0, 1)), [-1, 1, 0])
        self.assertEqual(cheaper_move(model, [0, 3, 3]), [0, -1, -1])
        self.assertIsNone(cheaper_move(model, [0, 1, 1]))

    def test_errors_in_their_order(self):
        model = Model(HALVES, [(0, 9)] * 3)
        self.raises_wide(10, TooWide, cheaper_move, Model(Book.free(names(10)), [FREE] * 10), [])
        for error, answer in ((BadSize, [2, 0]), (NotTable, [2, 0, 2]), (NotAnswer, [-1, 0, (-1, 2)]), (NotWhole, [1, 0, (1, 2)])):
            self.raises(error, cheaper_move, model, answer)
        self.assertEqual(self.raises(CoarseBook, cheaper_move, model, [2, 0, 1]).step, 2)

    def test_against_all_turnings_and_all_whole_answers(self):
        found = 0
        for model, answers in fine_models(272, 60):
            least = min(slow_price(model, table) for table in answers)
            for answer in answers[:15]:
                ways = [row for row in signed(turnings(model.book)) if slow_price(model, row) < 0
                        and slow_within([x + y for x, y in zip(answer, row)], model.box)]
                move = cheaper_move(model, answer)
                self.assertEqual(move, ways[0] if ways else None)
                self.assertIs(move is None, slow_price(model, answer) == least)
                if move is not None:
                    self.assertTrue(is_table(model.book, move))
                    found += 1
        self.assertGreater(found, 80)


if __name__ == "__main__":
    unittest.main()
