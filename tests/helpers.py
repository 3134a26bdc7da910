"""What the tests share: cases, sample books, and a slow second way to find what the program finds."""

import itertools
import random
import unittest
from fractions import Fraction
from math import gcd, lcm

from fineststep.books import Book, other_side
from fineststep.models import Model


class Case(unittest.TestCase):
    """A test case that looks at the class of an error and at its fields."""

    def raises(self, error, function, *args, **keywords):
        """Returns the error that the call raises, which is of just this class."""
        with self.assertRaises(error) as caught:
            function(*args, **keywords)
        self.assertIs(type(caught.exception), error)
        return caught.exception

    def raises_cell(self, error, cell, function, *args, **keywords):
        """Makes sure that the call raises this error with this cell."""
        self.assertEqual(self.raises(error, function, *args, **keywords).cell, cell)

    def raises_wide(self, size, error, function, *args, **keywords):
        """Makes sure that the call raises this error with this size."""
        self.assertEqual(self.raises(error, function, *args, **keywords).size, size)

    def raises_line(self, line, word, error, function, *args):
        """Makes sure that the call raises this error with this line and this word."""
        caught = self.raises(error, function, *args)
        self.assertEqual((caught.line, caught.word), (line, word))

    def assert_number(self, number):
        """Makes sure that the number has its only form."""
        if isinstance(number, tuple):
            top, bottom = number
            self.assertIs(type(top), int)
            self.assertIs(type(bottom), int)
            self.assertGreaterEqual(bottom, 2)
            self.assertEqual(gcd(top, bottom), 1)
        else:
            self.assertIs(type(number), int)

    def assert_numbers(self, numbers):
        """Makes sure that this is a list of numbers in their only form."""
        self.assertIs(type(numbers), list)
        for number in numbers:
            self.assert_number(number)


def fraction(number):
    """Returns the number as a Fraction."""
    return Fraction(*number) if isinstance(number, tuple) else Fraction(number)


def fractions(numbers):
    """Returns the numbers as Fractions."""
    return [fraction(number) for number in numbers]


def number_of(value):
    """Returns the Fraction, or whole number, as a number of the program."""
    value = Fraction(value)
    return value.numerator if value.denominator == 1 else (value.numerator, value.denominator)


def numbers_of(values):
    """Returns the Fractions as numbers of the program."""
    return [number_of(value) for value in values]


def names(many):
    """Returns so many names."""
    return [f"c{k}" for k in range(many)]


def random_number(rng, most=4, bottoms=(1, 1, 1, 2, 3)):
    """Returns a number that is often 0."""
    return number_of(Fraction(rng.choice([0, rng.randint(-most, most)]), rng.choice(bottoms)))


def random_rows(rng, many, size, **how):
    """Returns so many rows of this size."""
    return [[random_number(rng, **how) for _ in range(size)] for _ in range(many)]


def random_table(rng, book, **how):
    """Returns a table of the book."""
    table = [Fraction(0)] * book.size
    for row in book.frame:
        times = fraction(random_number(rng, **how))
        table = [x + times * y for x, y in zip(table, row)]
    return numbers_of(table)


def special_books():
    """Returns books of the kinds that stand at an edge."""
    return [
        Book(["a"], []),
        Book(["a"], [[0]]),
        Book(["a"], [[(-2, 3)]]),
        Book(["a", "b"], []),
        Book(["a", "b"], [[0, 1]]),
        Book(["a", "b"], [[1, 0]]),
        Book(["a", "b"], [[2, -3]]),
        Book(["a", "b", "c"], [[2, 1, 0], [0, 3, 3]]),
        Book(["a", "b", "c"], [[1, 0, 1], [0, 1, 1]]),
        Book.free(names(1)),
        Book.free(names(4)),
        Book(names(5), []),
        Book(names(5), [[0, 0, 1, 0, 0], [0, 0, 0, 0, 1]]),
        Book(names(6), [[1, 1, 1, 1, 1, 1]]),
        Book(names(6), [[1, 2, 3, 4, 5, 6], [1, 1, 1, 1, 1, 1]]),
        Book(names(4), [[1, 2, 0, 0], [0, 0, 2, (1, 2)]]),
    ]


def sample_books(most=7, many=40, seed=1):
    """Returns the special books and random ones of 1 to `most` cells, half of them with the numbers 0, 1 and -1 only."""
    rng = random.Random(seed)
    books = [book for book in special_books() if book.size <= most]
    for k in range(many):
        size = rng.randint(1, most)
        how = {"most": 1, "bottoms": (1,)} if k % 2 else {}
        books.append(Book(names(size), random_rows(rng, rng.randint(0, size), size, **how)))
    return books


def wide_books(seed=2):
    """Returns books of 10 to 16 cells."""
    rng = random.Random(seed)
    books = [Book.free(names(16)), Book(names(10), []), Book(names(16), [[1] * 16])]
    for size in range(10, 17):
        books.append(Book(names(size), random_rows(rng, rng.randint(1, size), size)))
    return books


def reduced(rows, size):
    """Returns the rows in reduced echelon form, as Fractions, and the pivots."""
    rows = [fractions(row) for row in rows]
    found, places = [], []
    for cell in range(size):
        lead = next((row for row in rows if row[cell] != 0), None)
        if lead is None:
            continue
        rows.remove(lead)
        lead = [x / lead[cell] for x in lead]
        rows = [[x - row[cell] * y for x, y in zip(row, lead)] for row in rows]
        found = [[x - row[cell] * y for x, y in zip(row, lead)] for row in found]
        found.append(lead)
        places.append(cell)
    return found, places


def kernel(rows, size):
    """Returns lists that span the lists whose dot with every row is 0."""
    found, places = reduced(rows, size)
    lists = []
    for cell in range(size):
        if cell not in places:
            values = [Fraction(0)] * size
            values[cell] = Fraction(1)
            for row, place in zip(found, places):
                values[place] = -row[cell]
            lists.append(values)
    return lists


def tables_with_zeros(book, cells):
    """Returns tables that span the tables that are 0 at the cells, as Fractions."""
    many = len(book.frame)
    columns = [[row[cell] for row in book.frame] for cell in cells]
    found = []
    for factors in kernel(columns, many):
        found.append([sum((t * row[k] for t, row in zip(factors, book.frame)), Fraction(0)) for k in range(book.size)])
    return found


def slow_primitive(values):
    """Returns the primitive row of Fractions."""
    bottom = lcm(*[value.denominator for value in values])
    tops = [int(value * bottom) for value in values]
    common = gcd(*tops)
    if common == 0:
        return tops
    if next(top for top in tops if top != 0) < 0:
        common = -common
    return [top // common for top in tops]


def slow_turnings(book):
    """Returns the turnings in order, found by looking at all lists of cells."""
    found = {}
    for many in range(1, book.size + 1):
        for cells in itertools.combinations(range(book.size), many):
            if any(set(known) <= set(cells) for known in found):
                continue
            tables = tables_with_zeros(book, [cell for cell in range(book.size) if cell not in cells])
            if tables:
                assert len(tables) == 1
                found[cells] = slow_primitive(tables[0])
    return [found[cells] for cells in sorted(found)]


def slow_bases(book):
    """Returns the bases in order, found by looking at all lists of cells."""
    many = len(book.frame)
    return [list(cells) for cells in itertools.combinations(range(book.size), many)
            if len(tables_with_zeros(book, cells)) == 0]


def slow_signed_prices(book):
    """Returns the signed price turnings in order."""
    return signed(slow_turnings(other_side(book)))


def random_range(rng, whole=False, around=0):
    """Returns a range of any kind."""
    how = {"bottoms": (1,)} if whole else {}
    low, high = (number_of(fraction(random_number(rng, **how)) + around) for _ in range(2))
    if fraction(low) > fraction(high):
        low, high = high, low
    return rng.choice([(low, high), (low, high), (low, high), (low, None), (None, high), (None, None), (low, low)])


def random_model(rng, book, whole=False, near=False):
    """Returns a model of the book; if near, most of its ranges hold the numbers of one table."""
    table = fractions(random_table(rng, book)) if near else [0] * book.size
    box = [random_range(rng, whole, round(number)) for number in table]
    prices = [random_number(rng) for _ in range(book.size)]
    marks = [cell for cell in range(book.size) if rng.random() < 0.2 and not any(isinstance(end, tuple) for end in box[cell])]
    return Model(book, box, prices=prices, marks=marks)


def sample_models(most=6, many=60, seed=3, entries=3, whole=False):
    """Returns models of all kinds, of books with at most so many cells and entries."""
    rng = random.Random(seed)
    models = []
    for k, book in enumerate(book for book in sample_books(most, many, seed) if len(book.frame) <= entries):
        models.append(random_model(rng, book, whole, near=False))
        models.append(random_model(rng, book, whole, near=True))
    return models


def engine_models(most=6, many=60, seed=4):
    """Returns models with many ends, so that runs make some steps, and many ties between them."""
    rng = random.Random(seed)
    models = []
    for k in range(many):
        size = rng.randint(2, most)
        how = {"most": 1, "bottoms": (1,)} if k % 2 else {"most": 2}
        book = Book(names(size), random_rows(rng, rng.randint(1, size - 1), size, **how))
        table = [0] * size if k % 3 == 0 else fractions(random_table(rng, book, most=2))
        box = []
        for number in table:
            low, high = number - rng.choice([0, 0, 1, 2]), number + rng.choice([0, 0, 1, 2])
            if k % 4 < 2:
                shift = rng.randint(-2, 2)
                low, high = low + shift, high + shift
            low, high = number_of(low), number_of(high)
            box.append(rng.choice([(low, high), (low, high), (low, None), (low, None), (None, high), (None, None)]))
        models.append(Model(book, box, prices=[random_number(rng, most=3, bottoms=(1, 1, 2)) for _ in range(size)]))
    return models


def roomy_models(many=60, seed=5):
    """Returns models that have more than one answer."""
    rng = random.Random(seed)
    models = []
    for k in range(many):
        size = rng.randint(3, 6)
        entries = rng.randint(2, min(4, size - 1))
        rows = [[int(cell == k) if cell < entries else rng.randint(-2, 2) for cell in range(size)] for k in range(entries)]
        book = Book(names(size), rows)
        box = []
        for number in fractions(random_table(rng, book, most=2)):
            low, high = number_of(number - rng.choice([0, 1, 2, 4])), number_of(number + rng.choice([1, 2, 3]))
            box.append(rng.choice([(low, high), (low, high), (low, None), (None, high)]))
        models.append(Model(book, box, prices=[random_number(rng, most=5) for _ in range(size)]))
    return models


def signed(rows):
    """Returns each row followed by its negative."""
    return [list(row) for turning in rows for row in (turning, [-x for x in turning])]


def slow_agrees(first, second):
    """Returns True if the first list of numbers agrees with the second one."""
    return all(x * y > 0 for x, y in zip(fractions(first), fractions(second)) if x != 0)
