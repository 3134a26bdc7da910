"""Point 2: no call changes what was passed to it, keeps it, or returns what it keeps; the same call has the same value."""

import copy
import inspect
import unittest

from fineststep import (agreeing, ahead, back, barring, bases, below, best, books, boxes, branches, cards, certificates, chances,
                        clashes, corners, crossing, cuts, cutting, days, deeds, desk, drawing, drops, edits, exact, finest, kths,
                        leaving, listing, lots, lowering, makes, models, moves, painting, picks, pieces, plain, pushes, ranges,
                        reading, report, reshaped, rests, rooms, roundings, rows, running, runs, settled, sheets, sides, stands,
                        stepping, turnings, walking, webs, wholes, widths, witness, writing)
from fineststep.books import Book
from fineststep.errors import BookError
from fineststep.models import Model
from fineststep.outcomes import Outcome
from interface import FUNCTIONS, forms_of

BOOK = Book(["a", "b", "c"], [[2, 1, 0], [0, 3, 3]])
PLAIN = Book(["a", "b", "c", "d"], [[1, 0, 1, 0], [0, 1, 1, 1]])
BOX = [(0, 2), (None, (5, 2)), (None, None)]
MODEL = Model(BOOK, BOX, prices=[1, (1, 2), 0], marks=[0])
EDGES = [("a", 0, 1), ("b", 1, 2), ("c", 2, 0)]
NEST = [("d", [0, 1]), ("e", [0])]

SUMS = Book(["a", "b", "c"], [[1, 0, 1], [0, 1, 1]])
GOOD = Model(SUMS, [(0, 2), (0, None), (1, (5, 2))], prices=[1, (1, 2), 0], marks=[0])
BARRED = Model(SUMS, [(0, 2), (0, 1), (5, 6)])
ENDLESS = Model(SUMS, [(0, None), (0, 1), (None, None)], prices=[-1, 0, 0])
STAND = ((0, 1), ("low", "low"))
RING = reading.read_model("entry a from 0 price -2\nentry b from 0 price 6\nentry c from 0 price -1\nentry d from 0 price 6\n"
                          "sum e = - a + 6 b + 2 c - 6 d from 0\nsum f = - 1/2 a + 2 b + 1/2 c - d from 0")

HALVES = Book(["a", "b", "c"], [[2, 0, 1], [0, 2, 1]])
WHOLE = Model(HALVES, [(0, 3), (0, 0), (0, 2)], prices=[-1, 0, 0], marks=[0, 1, 2])
SPLIT = Model(HALVES, [(0, 3), (0, 3), (0, 2)], prices=[-2, -1, 0], marks=[0, 1, 2])
TREE = [("split", 2, 1), ("dear", [0, 1, -4]), ("whole", [3, 1, 2], [-1, 0, -2])]
CUT = ([0, -1, 1], [(1, 2), (1, 2), -1], 1)
LOOSE = Model(SUMS, [(0, 2), (None, None), (0, 0)], prices=[1, 0, 5])
LOOSE_ALL = Model(SUMS, [(None, None)] * 3)
DROPS = Model(SUMS, [(0, 2), (0, 5), (0, 6)])
ALONG = [("blank", 1), ("shut", 1)]
TABLE = [(1, 2), (1, 2), 1]
LOT = [([0, 1, 1], (1, 2)), ([1, 0, 1], (1, 2))]

# Functions of exact.py whose arguments and values are numbers and texts, which nothing changes.
ONLY_NUMBERS = """top_of bottom_of minus over less is_whole floor_of ceiling_of nearest number_text read_number""".split()

# Each call: the function, its arguments, its arguments by name.
CALLS = [
    (exact.ratio, [6, -4], {}), (exact.plus, [(1, 2), 3], {}), (exact.times, [(1, 2), 3], {}),
    (exact.common_bottom, [[(1, 2), 3]], {}), (exact.least_of, [[(1, 2), 3]], {}), (exact.greatest_of, [[(1, 2), 3]], {}),
    (rows.support, [[0, (1, 2)]], {}), (rows.agrees, [[0, 1], [1, 1]], {}), (rows.dot, [[0, 1], [1, 1]], {}),
    (rows.negative, [[1, (1, 2)]], {}), (rows.negative, [[]], {}), (rows.scaled, [[1, 2], 1], {}),
    (rows.added, [[0, 0], [1, 2]], {}), (rows.before, [[1], [1, 2]], {}), (rows.primitive, [[0, (-1, 2), 3]], {}),
    (rows.primitive, [[1, 2]], {}), (rows.primitive, [[0, 0]], {}),
    (Book, [["a", "b"], [[2, 0], [0, 1]]], {}), (Book, [["a", "b"], [[1, 5]]], {}), (Book.free, [["a", "b"]], {}),
    (books.pivots, [BOOK], {}), (books.cell_of, [BOOK, "b"], {}), (books.is_table, [BOOK, [2, 1, 0]], {}),
    (books.table_of, [BOOK, [3, (1, 2)]], {}), (books.same_book, [BOOK, BOOK], {}), (books.other_side, [BOOK], {}),
    (Model, [BOOK, BOX], {"prices": [1, 2, 3], "marks": [0, 0]}), (Model, [BOOK, BOX], {}),
    (models.is_answer, [MODEL, [2, 1, 0]], {}), (models.is_whole_answer, [MODEL, [2, 1, 0]], {}),
    (models.price_of, [MODEL, [2, 1, 0]], {}), (models.same_model, [MODEL, MODEL], {}), (models.with_box, [MODEL, BOX], {}),
    (models.with_range, [MODEL, 0, 1, 1], {}), (models.with_price, [MODEL, 0, 9], {}), (models.with_mark, [MODEL, 0, False], {}),
    (reading.read_model, ["entry a to 3\nsum b = 2 a"], {}), (writing.write_model, [MODEL], {}),
    (listing.write_table, [BOOK, [2, 1, 0]], {}), (listing.read_table, [BOOK, "a 2\nb 1\nc 0"], {}),
    (listing.columns, [MODEL, [2, 1, 0]], {}),
    (settled.first_free, [BOOK, [2, 0, 1]], {}), (settled.rank, [BOOK, [2, 0, 1]], {}),
    (settled.settled, [BOOK, [2, 0, 2]], {}), (settled.settling_rule, [BOOK, [2, 1], 0], {}),
    (bases.bases, [BOOK], {}), (bases.bases, [Book(["a"], [])], {}), (bases.is_basis, [BOOK, [2, 1]], {}),
    (bases.basis_rows, [BOOK, [2, 1]], {}), (bases.swap, [BOOK, [1, 0], [2, 1], 0], {}),
    (turnings.turnings, [BOOK], {}), (turnings.turnings, [Book(["a", "b"], [[1, 5]])], {}),
    (turnings.is_turning, [BOOK, [-2, -1, 0]], {}), (turnings.turning_within, [BOOK, [2, 1, 0]], {}),
    (turnings.turnings_through, [BOOK, 0], {}),
    (sides.price_turnings, [BOOK], {}), (sides.is_price, [BOOK, [1, -2, 2]], {}), (sides.common_cells, [[1, 1], [0, 1]], {}),
    (agreeing.agreeing_parts, [BOOK, [2, 2, 1]], {}), (agreeing.agreeing_parts, [BOOK, [2, 1, 0]], {}),
    (agreeing.put_together, [3, [([2, 1, 0], 1), ([0, 1, 1], 1)]], {}), (agreeing.put_together, [3, [([2, 1, 0], 1)]], {}),
    (painting.paint, [BOOK, 0, ["", "up", "shut"]], {}), (painting.paint, [BOOK, 0, ["up", "shut", "shut"]], {}),
    (crossing.crossed, [BOOK, [2, 1, 0], [0, 1, 1], 1, 0], {}), (finest.steps, [BOOK], {}), (finest.finest_step, [BOOK], {}),
    (witness.step_witness, [BOOK, 3], {}), (witness.witness_table, [([2, 1, 0], 1)], {}),
    (witness.witness_box, [([2, 1, 0], 0)], {}), (witness.witness_holds, [BOOK, ([2, 1, 0], 0), 3], {}),
    (plain.is_plain, [PLAIN], {}), (plain.square_worth, [PLAIN, [3, 2], [1, 0]], {}), (plain.least_bad_square, [PLAIN], {}),
    (plain.least_bad_square, [Book(["a", "b", "c", "d"], [[1, 0, 1, 1], [0, 1, 1, -1]])], {}),
    (plain.halves, [PLAIN, [1, 0]], {}), (plain.halves, [PLAIN, []], {}), (plain.uneven_group, [PLAIN], {}),
    (plain.uneven_group, [Book(["a", "b", "c", "d"], [[1, 0, 1, 1], [0, 1, 1, -1]])], {}),
    (reshaped.bind, [BOOK, [1, 1]], {}), (reshaped.blank, [BOOK, [1, 1]], {}), (reshaped.with_sum, [BOOK, "d", [1, 2, 3]], {}),
    (reshaped.with_entry, [BOOK, "d", [1, 2, 3]], {}), (reshaped.turned, [BOOK, 1], {}), (reshaped.retold, [BOOK, 1, 2], {}),
    (reshaped.doubled, [BOOK, 1, "d"], {}), (reshaped.reordered, [BOOK, [2, 0, 1]], {}),
    (boxes.around, [[0, (1, 2)]], {}), (boxes.inside, [BOX, [0, 0, 0]], {}), (boxes.meet, [BOX], {}),
    (boxes.meet, [BOX, [(1, 3), (0, 1), (0, 0)], [(1, 1), (0, 1), (0, None)]], {}), (boxes.widened, [BOX, [1, 2, 0], (1, 2)], {}),
    (boxes.widened, [BOX, [1, 2, 0], 0], {}), (boxes.greatest_worth, [[-1, 1, 0], BOX], {}),
    (barring.barring, [BARRED], {}), (barring.has_answer, [BARRED], {}), (clashes.least_clashes, [BARRED], {}),
    (clashes.clash_row, [BARRED, [(2, "low"), (1, "high"), (0, "high"), (2, "low")]], {}), (clashes.repairs, [BARRED], {}),
    (clashes.repairs, [GOOD], {}), (clashes.only_bounds, [GOOD, [(2, "low"), (0, "high"), (2, "low")]], {}),
    (ranges.cell_range, [GOOD, 1], {}), (ranges.ranges, [GOOD], {}), (ranges.ranges, [BARRED], {}),
    (picks.pick_answer, [GOOD], {}), (picks.pick_answer, [GOOD], {"toward": [3, 1, 2]}),
    (picks.pick_answer, [BARRED], {"toward": [3, 1, 2]}),
    (kths.is_kth, [[1, (1, 2)], 2], {}), (kths.kth_answers, [Model(SUMS, [(0, 1), (0, 1), (1, 1)]), 2], {}),
    (kths.first_kth, [Model(SUMS, [(0, 1), (0, 1), (1, 1)]), 2], {}), (widths.least_width, [BARRED, [1, 1, 1]], {}),
    (widths.width_row, [BARRED, [1, 1, 1]], {}), (Outcome, ["best", STAND, [0, 0, 0], [(1, 2), 0, 0], 0, 1], {}),
    (stands.first_stand, [GOOD], {}), (stands.fitted_stand, [GOOD, (0, 1), ["high", "high"]], {}),
    (stands.stand_table, [GOOD, STAND], {}), (stands.stand_turnings, [GOOD, STAND], {}),
    (stands.reduced_prices, [GOOD, STAND], {}), (stands.is_priced, [GOOD, STAND], {}),
    (certificates.shows_none, [BARRED, [1, 1, -1]], {}),
    (certificates.shows_best, [GOOD, [0, 1, 1], [(1, 2), 0, (1, 2)]], {}),
    (certificates.shows_unbounded, [GOOD, [0, 1, 1], [0, 1, 1]], {}),
    (stepping.step_from, [GOOD, STAND], {}), (stepping.step_from, [GOOD, STAND], {"rule": (2, 1, 0)}),
    (stepping.step_from, [GOOD, ((0, 2), ("low", "low"))], {}), (stepping.step_from, [BARRED, ((0, 1), ("high", "high"))], {}),
    (stepping.step_from, [ENDLESS, ((0, 1), ("low", "low"))], {}), (below.below_start, [GOOD], {}),
    (below.below_step, [GOOD, STAND], {}), (below.below_step, [GOOD, ((0, 2), ("low", "low"))], {}),
    (below.from_below, [GOOD, STAND], {}), (running.solve, [GOOD], {}), (running.solve, [BARRED], {"rule": (2, 0, 1)}),
    (running.solve, [ENDLESS], {"rule": "fall"}), (running.solve_from, [GOOD, STAND], {"rule": "gain"}),
    (walking.stands_along, [GOOD], {}), (walking.ring, [RING], {"rule": "gain"}), (walking.ring, [GOOD], {}),
    (walking.stands_along, [RING], {"rule": "gain"}), (best.cheaper_turning, [GOOD, [1, 0, 1]], {}),
    (best.how_far, [GOOD, [1, 0, 1], [0, 1, 1]], {}), (best.best_price, [GOOD], {}), (best.best_price, [BARRED], {}),
    (best.best_price, [ENDLESS], {}), (best.best_box, [GOOD], {}), (best.best_ranges, [GOOD], {}),
    (sheets.sheets, [SUMS, [1, 3, 0]], {}), (sheets.sheet_worth, [[1, 1, 0], BOX], {}), (sheets.greatest_sheet, [GOOD], {}),
    (pieces.price_pieces, [GOOD, 2], {}), (pieces.price_pieces, [BARRED, 2], {}), (pieces.price_pieces, [ENDLESS, 1], {}),
    (pieces.piece_price, [[(0, 2, 0, 1), (2, None, -4, 3)], (5, 2)], {}), (corners.corners, [GOOD], {}),
    (corners.is_corner, [GOOD, [0, 1, 1]], {}), (rooms.price_room, [GOOD, [0, 1, 1], 1], {}),
    (rooms.end_room, [GOOD, ((0, 2), ("low", "low")), 2], {}), (rests.whole_frame, [BOOK], {}),
    (rests.whole_times, [BOOK, [2, 1, 0]], {}), (rests.whole_at, [BOOK, [1, 0], [1, 2]], {}),
    (rests.whole_at, [BOOK, [1, 0], [1, 1]], {}), (rests.whole_at, [BOOK, [2, 1, 0], [1, 1, 1]], {}),
    (webs.flow_book, [EDGES], {}), (webs.height_book, [EDGES], {}), (webs.is_round_trip, [EDGES, [1, 1, 1]], {}),
    (makes.stretch_book, [["a", "b"], [("d", 0, 1)]], {}), (makes.nest_book, [["a", "b"], NEST, [("f", [1, 1])]], {}),
    (wholes.reaches, [HALVES], {}), (wholes.whole_turnings, [HALVES], {}), (wholes.whole_turnings, [Book.free(["a"])], {}),
    (wholes.is_whole_turning, [HALVES, [1, 1, 1]], {}), (wholes.whole_parts, [HALVES, [5, 1, 3]], {}),
    (wholes.whole_parts, [HALVES, [2, 0, 1]], {}), (lowering.sure_whole, [WHOLE], {}), (lowering.is_whole_model, [WHOLE], {}),
    (lowering.distance, [WHOLE, [4, 0, 3]], {}), (lowering.cheaper_whole, [WHOLE, [0, 0, 0]], {}),
    (lowering.whole_answer, [WHOLE], {}), (lowering.lowest_whole, [WHOLE], {}), (branches.branch, [WHOLE], {}),
    (branches.branch, [Model(HALVES, [(1, 1), (0, 0), (0, 1)], marks=[0, 2])], {}), (branches.tree_holds, [SPLIT, TREE], {}),
    (branches.tree_best, [TREE, [-2, -1, 0]], {}), (cuts.cut_holds, [WHOLE, CUT], {}), (cuts.with_cut, [WHOLE, "d", CUT], {}),
    (cuts.cut_of, [WHOLE, ((0, 1), ("high", "low")), 2], {}), (cutting.cut_run, [WHOLE, ["x", "y"]], {}),
    (cutting.cut_run, [Model(HALVES, [(0, None)] * 3, prices=[-1, 0, 0], marks=[0, 1, 2]), ["x"]], {}),
    (drops.first_drop, [DROPS], {}), (pushes.first_push, [LOOSE], {}), (leaving.first_blank, [LOOSE], {}),
    (leaving.first_shut, [LOOSE], {}), (ahead.step_holds, [DROPS, ("drop", 2, "low", [1, 1, -1])], {}),
    (ahead.left_after, [DROPS, ("drop", 2, "low", [1, 1, -1])], {}), (ahead.left_after, [LOOSE, ("lift", 2)], {}),
    (ahead.ahead, [DROPS], {}), (ahead.ahead, [LOOSE, ["shut", "push", "blank"]], {}), (ahead.ahead, [LOOSE, []], {}),
    (back.models_along, [LOOSE, ALONG], {}), (back.models_along, [LOOSE, []], {}), (back.table_back, [LOOSE, ALONG, [2]], {}),
    (back.table_back, [LOOSE, [], [1, 2, 3]], {}), (back.turning_back, [LOOSE, ALONG, [2]], {}),
    (back.turning_back, [LOOSE, [], [1, -1, 0]], {}), (back.row_back, [LOOSE, ALONG, [0]], {}),
    (back.row_back, [LOOSE, [], [1, 1, -1]], {}), (back.reduced_back, [LOOSE, ALONG, [1]], {}),
    (back.reduced_back, [LOOSE, [], [1, 0, 5]], {}), (roundings.roundings, [SUMS, [(1, 2), (1, 2), 1]], {}),
    (roundings.roundings, [SUMS, [1, 2, 3]], {}), (roundings.count_roundings, [SUMS, [(1, 2), (1, 2), 1]], {}),
    (roundings.show_table, [SUMS, [(1, 2), (1, 2), 1]], {}), (roundings.show_table, [SUMS, [1, 2, 3]], {}),
    (moves.walk_between, [LOOSE_ALL, [0, 0, 0], [2, -1, 1]], {}), (moves.walk_between, [LOOSE_ALL, [1, 2, 3], [1, 2, 3]], {}),
    (moves.cheaper_move, [GOOD, [1, 0, 1]], {}), (lots.lot_mean, [LOT], {}), (lots.lot_mean, [[([1, 2], 1)]], {}),
    (lots.is_lot, [SUMS, TABLE, LOT], {}), (drawing.draw_up, [SUMS, TABLE], {}),
    (drawing.draw_up, [SUMS, TABLE], {"toward": [1, 0, 0]}), (drawing.draw_up, [SUMS, [1, 2, 3]], {}),
    (drawing.draw_paper, [LOT, (3, 4)], {}), (chances.paper_chance, [SUMS, TABLE, [0, 1, 1]], {}),
    (chances.rest_after, [SUMS, TABLE, [0, 1, 1]], {}), (days.parted, [SUMS, [3, 4, 7], 2], {}),
    (days.parted, [SUMS, [3, 4, 7], 1], {}), (days.is_parting, [SUMS, [3, 4, 7], [[1, 2, 3], [2, 2, 4]]], {}),
    (cards.cards, [SUMS, TABLE, 2], {}), (cards.least_cards, [TABLE], {}), (cards.lot_of_cards, [[[1, 0], [0, 1], [1, 0]]], {}),
    (deeds.write_deed, [("sum", "d", [(2, "a"), (0, "b")])], {}), (deeds.read_deed, ["sum d = 2 a - b"], {}),
    (deeds.write_journal, [[("mark", "a"), ("entry", "d", [(1, "a")])]], {}), (deeds.read_journal, ["mark a\nentry d = a"], {}),
    (deeds.read_journal, [""], {}), (edits.edited, [GOOD, ("sum", "d", [(2, "a"), (0, "b")])], {}),
    (edits.edited, [GOOD, ("entry", "d", [(2, "a"), (0, "b")])], {}), (edits.edited, [GOOD, ("leave", "b")], {}),
    (edits.edited, [GOOD, ("range", "b", 1, None)], {}), (runs.run_desk, ["entry a to 2\n\nreport\nmodel\nlot\nbest"], {}),
]


def shown(value):
    """Returns what can be compared of a value, in tuples that nothing changes."""
    if isinstance(value, Book):
        return ("book", value.names, value.size, value.frame)
    if isinstance(value, Model):
        return ("model", shown(value.book), value.box, value.prices, value.marks)
    if isinstance(value, (Outcome, BookError)):
        return (type(value).__name__,) + tuple((name, shown(item)) for name, item in sorted(vars(value).items()))
    if isinstance(value, (list, tuple)):
        return (type(value).__name__,) + tuple(shown(item) for item in value)
    if isinstance(value, dict):
        return tuple((key, shown(item)) for key, item in value.items())
    return (type(value).__name__, value)


def copied(value):
    """Returns a copy with new lists; books and models are the same objects."""
    if isinstance(value, (Book, Model)):
        return value
    if isinstance(value, (list, tuple)):
        return type(value)([copied(item) for item in value])
    if isinstance(value, dict):
        return {key: copied(item) for key, item in value.items()}
    return copy.copy(value)


def spoil(value):
    """Changes all lists in the value."""
    if isinstance(value, (Outcome, BookError)):
        spoil(list(vars(value).values()))
    if isinstance(value, (list, tuple)):
        for item in value:
            spoil(item)
    if isinstance(value, dict):
        for item in value.values():
            spoil(item)
    if isinstance(value, list):
        value.reverse()
        value.append("spoiled")
        value[0] = "spoiled"


def called(function, args, keywords):
    """Returns the value of the call, as a list if it is a generator, or the error that it raises."""
    try:
        value = function(*args, **keywords)
        return list(value) if inspect.isgenerator(value) else value
    except BookError as error:
        return error


def desk_values(desk):
    """Returns what can be compared of a desk."""
    return shown([desk.model, desk.outcome, desk.deeds(), report.report(desk)])


class Keeping(unittest.TestCase):
    def test_every_function_of_the_interface_is_called(self):
        have = {f"{function.__module__}.{function.__qualname__}" for function, _, _ in CALLS}
        have |= {"fineststep.exact." + name for name in ONLY_NUMBERS} | {"fineststep.report.report"}
        for file in FUNCTIONS:
            for form in forms_of(file):
                self.assertIn(f"fineststep.{file}.{form.partition('(')[0]}", have)

    def test_arguments_are_neither_changed_nor_kept(self):
        for function, args, keywords in CALLS:
            with self.subTest(function=function, args=args):
                passed, named = copied(args), copied(keywords)
                before = (shown(passed), shown(named))
                value = called(function, passed, named)
                self.assertEqual((shown(passed), shown(named)), before)
                first = shown(value)
                spoil(passed)
                spoil(named)
                self.assertEqual(shown(value), first)
                self.assertEqual(shown(called(function, copied(args), copied(keywords))), first)

    def test_returned_lists_are_new(self):
        for function, args, keywords in CALLS:
            with self.subTest(function=function, args=args):
                passed, named = copied(args), copied(keywords)
                before = (shown(passed), shown(named))
                value = called(function, passed, named)
                first = shown(value)
                spoil(value)
                self.assertEqual((shown(passed), shown(named)), before)
                self.assertEqual(shown(called(function, passed, named)), first)

    def test_a_desk_keeps_nothing_and_returns_nothing_that_it_keeps(self):
        done = [("sum", "d", [(2, "a"), (0, "b")]), ("range", "d", 0, None), ("entry", "e", [(1, "b")])]
        passed = copied(done)
        found = desk.Desk(GOOD)
        found.act(*passed)
        first = desk_values(found)
        spoil(passed)
        self.assertEqual(desk_values(found), first)
        for value in (found.deeds(), report.report(found), found.tried([("leave", "a"), ("mark", "b")])):
            spoil(value)
            self.assertEqual(desk_values(found), first)
        found.undo()
        found.redo()
        self.assertEqual(desk_values(found), first)
        passed = copied(done)
        other = desk.Desk.replayed(GOOD, passed)
        self.assertEqual(shown(passed), shown(done))
        spoil(passed)
        self.assertEqual(desk_values(other), first)
        tried = [("sum", "f", [(1, "a")])]
        other.tried(tried)
        self.assertEqual(tried, [("sum", "f", [(1, "a")])])
        spoil(tried)
        self.assertEqual(desk_values(other), first)

    def test_yielded_lists_may_be_changed_while_the_iteration_goes_on(self):
        for function in (bases.bases, turnings.turnings, lambda book: roundings.roundings(SUMS, [(1, 2), (1, 2), 1])):
            expected = list(function(BOOK))
            found = []
            for row in function(BOOK):
                found.append(list(row))
                row.append(99)
                row[0] = 99
            self.assertEqual(found, expected)

    def test_two_iterations_at_the_same_time(self):
        for function in (bases.bases, turnings.turnings):
            pairs = list(zip(function(BOOK), function(BOOK)))
            self.assertEqual([first for first, _ in pairs], [second for _, second in pairs])


if __name__ == "__main__":
    unittest.main()
