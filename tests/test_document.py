"""The sentences of the document that speak of several modules at once."""

import random
import unittest

from fineststep.ahead import ahead
from fineststep.back import reduced_back, row_back, table_back, turning_back
from fineststep.barring import barring, has_answer
from fineststep.bases import bases, basis_rows, is_basis
from fineststep.below import below_start, from_below
from fineststep.best import best_box, best_price, best_ranges, cheaper_turning
from fineststep.books import Book, is_table, other_side, pivots, same_book, table_of
from fineststep.boxes import around, inside
from fineststep.branches import branch, tree_best, tree_holds
from fineststep.cards import cards, least_cards, lot_of_cards
from fineststep.certificates import shows_best, shows_none, shows_unbounded
from fineststep.chances import paper_chance, rest_after
from fineststep.clashes import clash_row, least_clashes, only_bounds, repairs
from fineststep.corners import corners
from fineststep.cutting import cut_run
from fineststep.days import is_parting, parted
from fineststep.desk import Desk
from fineststep.drawing import draw_up
from fineststep.edits import edited
from fineststep.errors import BookError, NoAnswer, NoLeast, NoStart, TooMany
from fineststep.exact import bottom_of, is_whole, times
from fineststep.finest import finest_step, steps
from fineststep.kths import first_kth, is_kth
from fineststep.listing import read_table, write_table
from fineststep.lots import is_lot
from fineststep.lowering import cheaper_whole, distance, is_whole_model, lowest_whole
from fineststep.makes import nest_book, stretch_book
from fineststep.models import Model, is_answer, is_whole_answer, price_of, same_model
from fineststep.moves import cheaper_move, walk_between
from fineststep.pieces import piece_price, price_pieces
from fineststep.picks import pick_answer
from fineststep.plain import is_plain, least_bad_square, uneven_group
from fineststep.ranges import cell_range, ranges
from fineststep.reading import read_model
from fineststep.reshaped import bind, blank, with_entry, with_sum
from fineststep.rests import whole_frame
from fineststep.roundings import roundings, show_table
from fineststep.rows import dot, negative
from fineststep.running import solve, solve_from
from fineststep.sheets import greatest_sheet
from fineststep.sides import common_cells, is_price, price_turnings
from fineststep.stands import reduced_prices, stand_table
from fineststep.turnings import turnings
from fineststep.walking import stands_along
from fineststep.webs import flow_book, height_book
from fineststep.wholes import reaches, whole_parts, whole_turnings
from fineststep.widths import least_width
from fineststep.witness import step_witness, witness_box, witness_holds, witness_table
from fineststep.writing import write_model
from helpers import (Case, engine_models, fraction, names, number_of, random_number, roomy_models, sample_books, sample_models,
                     wide_books)
from reducing import loose_models
from wholly import broken_table, small_books, whole_models


def many_models(seed):
    """Returns models of all kinds."""
    return sample_models(5, 25, seed=seed) + engine_models(5, 25, seed=seed) + roomy_models(15, seed=seed) + loose_models(seed, 25, 5)


class TwoSides(Case):
    def test_price_turnings_are_the_turnings_of_the_other_side(self):
        for book in sample_books(7, 40, seed=371):
            other = other_side(book)
            self.assertEqual(price_turnings(book), list(turnings(other)))
            self.assertEqual(price_turnings(other), list(turnings(book)))
            self.assertTrue(same_book(other_side(other), book))
            self.assertEqual(len(pivots(book)) + len(pivots(other)), book.size)
            for row in turnings(book):
                for price_row in price_turnings(book):
                    self.assertEqual(dot(row, price_row), 0)
                    self.assertNotEqual(len(common_cells(row, price_row)), 1)
                self.assertTrue(is_price(other, row) and is_table(book, row))

    def test_bases_of_both_sides(self):
        for book in sample_books(6, 30, seed=372):
            other = other_side(book)
            for basis in bases(book):
                rest = [cell for cell in range(book.size) if cell not in basis]
                self.assertTrue(is_basis(other, rest))
                rows, price_rows = basis_rows(book, basis), basis_rows(other, rest)
                for i, row in zip(basis, rows):
                    for j, price_row in zip(rest, price_rows):
                        self.assertEqual(row[j], number_of(-fraction(price_row[i])))

    def test_the_finest_step(self):
        for book in sample_books(6, 30, seed=373):
            step = finest_step(book)
            self.assertEqual(step, finest_step(other_side(book)))
            bottoms = [bottom_of(x) for basis in bases(book) for row in basis_rows(book, basis) for x in row]
            self.assertTrue(all(step % bottom == 0 for bottom in bottoms + steps(book)))
            self.assertIsNone(step_witness(book, step))
            if is_plain(book):
                self.assertEqual(step == 1, least_bad_square(book) is None)
                self.assertEqual(step == 1, uneven_group(book) is None)
            if book.size > 1:
                self.assertEqual((step % finest_step(bind(book, [0])), step % finest_step(blank(book, [0]))), (0, 0))
                self.assertTrue(same_book(other_side(blank(book, [0])), bind(other_side(book), [0])))

    def test_sums_and_entries_of_a_row(self):
        rng = random.Random(374)
        for book in sample_books(6, 30, seed=374) + [book for book in wide_books() if book.size < 16]:
            row = [random_number(rng) for _ in range(book.size)]
            self.assertTrue(same_book(other_side(with_sum(book, "new", row)), with_entry(other_side(book), "new", negative(row))))
            self.assertTrue(same_book(other_side(with_entry(book, "new", row)), with_sum(other_side(book), "new", negative(row))))

    def test_webs_stretches_and_nests_have_finest_step_1(self):
        rng = random.Random(375)
        for _ in range(15):
            edges = [(name, rng.randint(0, 4), rng.randint(0, 4)) for name in names(rng.randint(1, 8))]
            self.assertTrue(same_book(other_side(flow_book(edges)), height_book(edges)))
            self.assertEqual((finest_step(flow_book(edges)), finest_step(height_book(edges))), (1, 1))
        self.assertEqual(finest_step(stretch_book(names(4), [("x", 0, 2), ("y", 1, 3), ("z", 2, 2)])), 1)
        self.assertEqual(finest_step(nest_book(names(4), [("x", [0, 1]), ("y", [0])], [("z", [1, 2]), ("w", [1, 2, 3])])), 1)


class Answers(Case):
    def test_whether_there_is_an_answer(self):
        for model in many_models(381):
            end, row = solve(model), barring(model)
            self.assertEqual([row is None, has_answer(model)], [end.kind != "none"] * 2)
            self.assertEqual(bool(least_clashes(model)), end.kind == "none")
            if row is None:
                self.assertTrue(is_answer(model, pick_answer(model)))
                self.assertEqual(least_width(model, [1] * model.book.size), 0)
                self.assertEqual(repairs(model), [[]])
                self.assertTrue(inside(ranges(model), pick_answer(model)))
                self.assertEqual(distance(model, pick_answer(model)), 0)
            else:
                self.assertTrue(shows_none(model, row) and shows_none(model, list(end.row)))
                for clash in least_clashes(model):
                    self.assertFalse(has_answer(only_bounds(model, clash)))
                    self.assertTrue(shows_none(model, clash_row(model, clash)))
                self.assertEqual(self.raises(NoAnswer, ranges, model).row, row)
                self.assertTrue(shows_none(model, self.raises(NoAnswer, best_price, model).row))

    def test_certificates_of_runs_from_above_and_from_below(self):
        seen = {"above": [], "below": []}
        for model in many_models(382):
            ends = [("above", solve(model, rule=rule)) for rule in ("first", "last", "fall", tuple(range(model.book.size)))]
            ends += [("above", solve_from(model, stand)) for stand in list(stands_along(model, rule="last"))[-2:]]
            try:
                ends.append(("below", from_below(model, below_start(model))))
            except NoStart:
                pass
            self.assertEqual(len({(end.kind, end.price) for _, end in ends}), 1)
            for way, end in ends:
                table, row = list(end.table), list(end.row)
                self.assertEqual(table, stand_table(model, end.stand))
                shown = {"best": shows_best(model, table, row), "none": shows_none(model, row),
                         "unbounded": shows_unbounded(model, table, row)}
                self.assertEqual([kind for kind in shown if shown[kind]], [end.kind])
                if end.kind == "best":
                    self.assertEqual((row, price_of(model, table)), (reduced_prices(model, end.stand), end.price))
                seen[way].append(end.kind)
        for kind in ("best", "none", "unbounded"):
            self.assertGreater(seen["above"].count(kind), 20)
        for kind in ("best", "none"):
            self.assertGreater(seen["below"].count(kind), 10)

    def test_the_least_price_in_all_its_ways(self):
        for model in many_models(383):
            end = solve(model)
            if end.kind == "none":
                continue
            sheet = greatest_sheet(model)
            if end.kind == "unbounded":
                self.assertIsNone(sheet)
                self.raises(NoLeast, best_box, model)
                continue
            price = best_price(model)
            self.assertEqual((price, sheet[0]), (end.price, end.price))
            self.assertIsNone(cheaper_turning(model, list(end.table)))
            self.assertEqual(best_ranges(model), ranges(best_box(model)))
            self.assertTrue(inside(best_ranges(model), list(end.table)))
            found = corners(model)
            if found:
                self.assertEqual(fraction(price), min(fraction(price_of(model, corner)) for corner in found))
            for cell in range(model.book.size):
                pieces = price_pieces(model, cell)
                self.assertEqual((pieces[0][0], pieces[-1][1]), cell_range(model, cell))
                self.assertEqual(piece_price(pieces, end.table[cell]), price)

    def test_texts_give_the_same_models_and_tables(self):
        for model in many_models(384):
            self.assertTrue(same_model(read_model(write_model(model)), model))
            table = stand_table(model, solve(model).stand)
            self.assertEqual(read_table(model.book, write_table(model.book, table)), table)


class FinestSteps(Case):
    def test_in_which_fractions_answers_can_be_found(self):
        for model in sample_models(5, 30, seed=391, whole=True):
            step = finest_step(model.book)
            if has_answer(model):
                self.assertTrue(is_kth(pick_answer(model), step))
                try:
                    self.assertIsNotNone(first_kth(model, step))
                except BookError:
                    pass
        for book in sample_books(6, 30, seed=392):
            for k in (1, 2, 3):
                witness = step_witness(book, k)
                self.assertEqual(witness is None, k % finest_step(book) == 0)
                if witness is not None:
                    self.assertTrue(witness_holds(book, witness, k))
                    box = Model(book, witness_box(witness))
                    self.assertTrue(is_answer(box, witness_table(witness)) and not is_kth(witness_table(witness), k))
                    self.assertEqual(pick_answer(box), witness_table(witness))
                    self.assertIsNone(first_kth(box, k))

    def test_finest_step_1_makes_whole_answers_easy(self):
        seen = 0
        for model in sample_models(6, 60, seed=393, whole=True):
            book = model.book
            if finest_step(book) != 1:
                continue
            end = solve(model)
            if end.kind == "best":
                self.assertTrue(all(map(is_whole, end.table)))
                seen += 1
            if len(pivots(book)) < 4:
                self.assertEqual(sorted(turnings(book)), sorted(whole_turnings(book)))
            self.assertTrue(is_table(book, show_table(book, [0] * book.size)))
        self.assertGreater(seen, 10)


class WholeAnswers(Case):
    def test_lowest_whole_answers_in_all_their_ways(self):
        seen = 0
        for model in whole_models(401, 120):
            self.assertTrue(is_whole_model(model))
            lowest = lowest_whole(model)
            try:
                tree = branch(model)
            except TooMany:
                continue
            self.assertTrue(tree_holds(model, tree))
            best = tree_best(tree, model.prices)
            if lowest is None:
                self.assertIsNone(best)
                continue
            self.assertEqual(best[0], lowest[0])
            self.assertTrue(is_whole_answer(model, lowest[1]) and is_whole_answer(model, best[1]))
            self.assertEqual((cheaper_whole(model, lowest[1]), cheaper_whole(model, best[1])), (None, None))
            self.assertLessEqual(fraction(best_price(model)), fraction(lowest[0]))
            if finest_step(model.book) == 1:
                self.assertIsNone(cheaper_move(model, lowest[1]))
                walk = walk_between(model, lowest[1], best[1])
                self.assertEqual({price_of(model, table) for table in walk}, {lowest[0]})
            end, _, cuts = cut_run(model, ["x", "y", "z"])
            if end.kind == "best":
                self.assertLessEqual(fraction(end.price), fraction(lowest[0]))
                seen += len(cuts)
            self.assertNotEqual(end.kind, "none")
        self.assertGreater(seen, 3)

    def test_whole_tables_are_sums_of_whole_turnings_and_of_the_whole_frame(self):
        for book in small_books(402, 40):
            for row in whole_frame(book):
                parts = whole_parts(book, row)
                self.assertEqual([sum(often * part[cell] for part, often in parts) for cell in range(book.size)], row)
            for row in whole_turnings(book):
                self.assertTrue(all(abs(x) <= most for x, most in zip(row, reaches(book))))


class Reductions(Case):
    def test_what_is_found_for_the_model_left_holds_for_the_first_one(self):
        kinds = []
        for model in many_models(411) + loose_models(412, 40, 5):
            found, left = ahead(model)
            end, first = solve(left), solve(model)
            self.assertEqual((end.kind, end.price), (first.kind, first.price))
            if end.kind == "none":
                self.assertTrue(shows_none(model, row_back(model, found, list(end.row))))
            elif end.kind == "best":
                table = table_back(model, found, list(end.table))
                self.assertTrue(shows_best(model, table, reduced_back(model, found, list(end.row))))
            else:
                table = table_back(model, found, list(end.table))
                self.assertTrue(shows_unbounded(model, table, turning_back(model, found, list(end.row))))
            kinds.append((end.kind, bool(found)))
        for kind in ("best", "none", "unbounded"):
            self.assertGreater(kinds.count((kind, True)), 10)


class LotsAndDays(Case):
    def test_papers_cards_and_days(self):
        rng = random.Random(421)
        fine = 0
        for book in sample_books(6, 60, seed=421):
            table = broken_table(rng, book)
            lot = draw_up(book, table)
            self.assertTrue(is_lot(book, table, lot))
            self.assertTrue(all(inside(around(table), paper) for paper, _ in lot))
            for whole in list(roundings(book, table))[:3]:
                chance = paper_chance(book, table, whole)
                if chance != 1:
                    self.assertTrue(inside(around(table), rest_after(book, table, whole)))
                given = [share for paper, share in lot if paper == whole]
                self.assertTrue(not given or fraction(given[0]) <= fraction(chance))
            if finest_step(book) != 1:
                continue
            self.assertTrue(all(paper in list(roundings(book, table)) for paper, _ in lot))
            self.assertIn(show_table(book, table), list(roundings(book, table)))
            many = least_cards(table)
            if many <= 12:
                whole = [times(many, x) for x in table]
                self.assertEqual(cards(book, table, many), parted(book, whole, many))
                self.assertTrue(is_parting(book, whole, cards(book, table, many)))
                self.assertTrue(is_lot(book, table, lot_of_cards(cards(book, table, many))))
                fine += many > 1
        self.assertGreater(fine, 5)


class Desks(Case):
    def test_a_desk_shows_what_solve_shows(self):
        for model in many_models(431)[::3]:
            desk = Desk(model)
            for name in model.book.names[:2]:
                desk.act(("range", name, -1, 1), ("price", name, 2))
                end = solve(desk.model)
                self.assertEqual((desk.outcome.kind, desk.outcome.price), (end.kind, end.price))
                self.assertEqual(desk.tried([("leave", name)] if model.book.size > 1 else [])[:1],
                                 [solve(edited(desk.model, ("leave", name))).kind] if model.book.size > 1 else [])

    def test_tables_are_determined_by_the_entries(self):
        for book in sample_books(6, 20, seed=432):
            self.assertTrue(all(table_of(book, [row[entry] for entry in pivots(book)]) == list(row) for row in book.frame))


if __name__ == "__main__":
    unittest.main()
