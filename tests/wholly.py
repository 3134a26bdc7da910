"""A slow second way to find whole tables and whole answers: all lists of whole numbers at the entries are tried."""

import itertools
import random
from fractions import Fraction
from math import lcm

from fineststep.books import Book, pivots
from fineststep.models import Model
from helpers import fractions, names, numbers_of, random_number, random_rows, random_table, slow_turnings
from slow import slow_within


def whole_tables_at(book, ranges):
    """Returns the whole tables, as lists of ints, whose numbers at the entries are in these ranges."""
    bottom = lcm(*[row[entry] for row, entry in zip(book.frame, pivots(book))])
    rows = [[x * bottom // row[entry] for x in row] for row, entry in zip(book.frame, pivots(book))]
    found = []
    for values in itertools.product(*ranges):
        tops = [sum(value * row[cell] for row, value in zip(rows, values)) for cell in range(book.size)]
        if all(top % bottom == 0 for top in tops):
            found.append([top // bottom for top in tops])
    return found


def slow_reaches(book):
    """Returns the reaches as point 93 says."""
    found = []
    for cell in range(book.size):
        step = max((abs(row[cell]) for row in slow_turnings(book)), default=0)
        found.append(step if step == 0 or len(book.frame) == 1 else step * len(book.frame) - 1)
    return found


def product_of_reaches(book):
    """Returns the number that is above 2500 when TooMany is raised."""
    many = 1
    for entry in pivots(book):
        many *= 2 * slow_reaches(book)[entry] + 1
    return many


def is_below(first, second):
    """Returns True if the first list of ints agrees with the second one and is nowhere larger."""
    return all(x == 0 or x * y > 0 and abs(x) <= abs(y) for x, y in zip(first, second))


def slow_whole_turnings(book):
    """Returns the whole turnings: the least of all whole tables within the reaches, in their order."""
    reach = slow_reaches(book)
    tables = whole_tables_at(book, [range(-reach[entry], reach[entry] + 1) for entry in pivots(book)])
    tables = [table for table in tables if any(table) and all(abs(x) <= most for x, most in zip(table, reach))]
    found = [table for table in tables if next(x for x in table if x != 0) > 0
             and not any(other != table and is_below(other, table) for other in tables)]
    return sorted(found, key=lambda table: (sum(map(abs, table)), table))


def slow_sure(model):
    """Returns the sure whole cells: whole numbers at the entries give whole numbers there, or they are marked."""
    entries = pivots(model.book)
    found = set(model.marks)
    if set(entries) <= set(model.marks):
        for cell in range(model.book.size):
            if all(Fraction(row[cell], row[entry]).denominator == 1 for row, entry in zip(model.book.frame, entries)):
                found.add(cell)
    return sorted(found)


def slow_price(model, numbers):
    """Returns the price as a Fraction."""
    return sum((x * y for x, y in zip(fractions(model.prices), fractions(numbers))), Fraction(0))


def slow_whole_answers(model):
    """Returns all whole answers of a whole model whose entries have both ends."""
    ranges = [range(low, high + 1) for low, high in (model.box[entry] for entry in pivots(model.book))]
    return [table for table in whole_tables_at(model.book, ranges) if slow_within(table, model.box)]


def slow_lowest(model):
    """Returns the least price of the whole answers, None if there is none."""
    return min((slow_price(model, table) for table in slow_whole_answers(model)), default=None)


def small_books(seed, many, most=5, entries=3):
    """Returns books with few entries and small numbers, so that few lists of whole numbers are tried.

    In half of them the numbers at the entries are up to 3, so that often the finest step is above 1.
    """
    rng = random.Random(seed)
    books = []
    while len(books) < many:
        coarse = len(books) % 2
        size = rng.randint(3 if coarse else 1, most)
        many_rows = rng.randint(2 if coarse else 0, min(entries, size))
        rows = random_rows(rng, many_rows, size, most=rng.choice([1, 1, 2, 3]), bottoms=(1,))
        if coarse:
            rows = [[rng.randint(1, 3) * (cell == k) if cell < len(rows) else rng.randint(-2, 2) for cell in range(size)]
                    for k in range(len(rows))]
        book = Book(names(size), rows)
        if product_of_reaches(book) <= 2500:
            books.append(book)
    return books


def whole_models(seed, many, most=5, wide=3):
    """Returns whole models whose marked cells have both ends, around or beside a whole table."""
    rng = random.Random(seed)
    models = []
    for k, book in enumerate(small_books(seed, many, most)):
        values = [rng.randint(-3, 3) for _ in book.frame]
        centre = [round(x) for x in fractions(random_table(rng, book, most=3))] if k % 3 else [0] * book.size
        for entry, value in zip(pivots(book), values):
            centre[entry] += value
        box, marks = [], []
        for cell in range(book.size):
            low, high = centre[cell] - rng.randint(0, wide), centre[cell] + rng.randint(0, wide)
            must = any(row[cell] % row[entry] for row, entry in zip(book.frame, pivots(book))) or cell in pivots(book)
            if must or rng.random() < 0.2:
                marks.append(cell)
            else:
                low, high = rng.choice([(low, high), (low, None), (None, high), (None, None), ((2 * low - 1, 2), (2 * high + 1, 2))])
            box.append((low, high))
        models.append(Model(book, box, prices=[random_number(rng, most=4) for _ in range(book.size)], marks=marks))
    return models


def knapsack_models(seed, many):
    """Returns models whose entries are all marked, with sums that leave few whole answers."""
    rng = random.Random(seed)
    models = []
    for _ in range(many):
        rows = [[int(cell == k) if cell < 3 else rng.randint(1, 9) for cell in range(5)] for k in range(3)]
        box = [(0, 3)] * 3 + [(low, low + rng.randint(1, 4)) for low in (rng.randint(3, 15), rng.randint(3, 15))]
        models.append(Model(Book(names(5), rows), box, prices=[rng.randint(-9, 9) for _ in range(5)], marks=[0, 1, 2]))
    return models


def broken_table(rng, book):
    """Returns a table of the book that is seldom whole."""
    table = [Fraction(0)] * book.size
    for row in book.frame:
        times = Fraction(rng.randint(-30, 30), rng.choice((2, 3, 4, 5)))
        table = [x + times * y for x, y in zip(table, row)]
    return numbers_of(table)
