"""Points 129 to 131: desks."""

import random
import unittest

from fineststep.books import Book
from fineststep.certificates import shows_best, shows_none, shows_unbounded
from fineststep.desk import Desk
from fineststep.edits import edited
from fineststep.errors import BadDeed, BadName, BookError, EmptyRange, NoCell, NoDeed, NotWhole
from fineststep.models import Model, same_model
from fineststep.running import solve, solve_from
from fineststep.stands import first_stand, fitted_stand
from helpers import Case, names, random_number, roomy_models, sample_models
from test_cutting import fields

FREE = (None, None)
BOOK = Book(["a", "b", "c"], [[1, 0, 1], [0, 1, 1]])
MODEL = Model(BOOK, [(0, 2), (0, None), (1, (5, 2))], prices=[1, (1, 2), 0])


def shown(desk):
    """Returns all that a desk shows, and what it can do again."""
    again = []
    try:
        while True:
            desk.redo()
            again.append(desk.deeds()[-1])
    except NoDeed:
        for _ in again:
            desk.undo()
    model = desk.model
    return [model.book.names, model.book.frame, model.box, model.prices, model.marks, fields(desk.outcome), desk.deeds(), again]


def slow_stand(model, stand, deed, changed):
    """Returns the stand from which the run after the deed begins, as point 129 says."""
    pairs = dict(zip(*stand))
    if deed[0] == "entry":
        pairs[model.book.size] = "zero"
    if deed[0] == "leave":
        gone = model.book.names.index(deed[1])
        if gone in pairs:
            return first_stand(changed)
        pairs = {cell - (cell > gone): word for cell, word in pairs.items()}
    return fitted_stand(changed, tuple(sorted(pairs)), [pairs[cell] for cell in sorted(pairs)])


def random_deed(rng, model):
    """Returns a deed of any kind, most of which are not refused."""
    name = rng.choice(model.book.names) if rng.random() < 0.95 else "nobody"
    word = rng.choice(["range", "range", "range", "price", "mark", "unmark", "sum", "entry", "leave"])
    if word == "range":
        low, high = rng.randint(-3, 3), rng.randint(-2, 5)
        return (word, name, rng.choice([low, None]), rng.choice([high, None, low]))
    if word == "price":
        return (word, name, random_number(rng))
    if word in ("sum", "entry"):
        chosen = [other for other in model.book.names if rng.random() < 0.5]
        return (word, f"n{rng.randint(0, 30)}", [(random_number(rng, most=2, bottoms=(1, 1, 2)), other) for other in chosen])
    return (word, name)


class Start(Case):
    def test_the_example(self):
        desk = Desk(MODEL)
        self.assertIsNone(desk.act(("range", "b", 0, 0), ("price", "c", 1)))
        self.assertEqual([desk.outcome.kind, desk.outcome.price, desk.tried([("leave", "b"), ("range", "a", 0, (1, 2))])],
                         ["best", 2, ["best", "best"]])
        self.assertIsNone(desk.undo())
        self.assertEqual([desk.outcome.price, desk.deeds()], [1, [("range", "b", 0, 0)]])
        self.assertIsNone(desk.redo())
        self.assertEqual(desk.outcome.price, 2)

    def test_a_new_desk(self):
        for model in sample_models(6, 20, seed=341) + roomy_models(10, seed=341):
            desk = Desk(model)
            self.assertTrue(same_model(desk.model, model))
            self.assertEqual((fields(desk.outcome), desk.deeds()), (fields(solve(model)), []))

    def test_wide_models(self):
        desk = Desk(Model(Book.free(names(16)), [(0, 1)] * 16))
        desk.act(("price", "c3", -1), ("leave", "c0"))
        self.assertEqual((desk.outcome.kind, desk.outcome.price, desk.model.book.size), ("best", -1, 15))


class Acts(Case):
    def check(self, desk, deed):
        """Does a deed, and compares the outcome with point 129."""
        model, stand = desk.model, desk.outcome.stand
        desk.act(deed)
        self.assertTrue(same_model(desk.model, edited(model, deed)))
        expected = solve_from(desk.model, slow_stand(model, stand, deed, desk.model))
        self.assertEqual(fields(desk.outcome), fields(expected))
        end = solve(desk.model)
        self.assertEqual((desk.outcome.kind, desk.outcome.price), (end.kind, end.price))
        self.check_shown(desk.model, desk.outcome)

    def check_shown(self, model, outcome):
        """Makes sure that the outcome shows what it says."""
        if outcome.kind == "best":
            self.assertTrue(shows_best(model, outcome.table, outcome.row))
        elif outcome.kind == "none":
            self.assertTrue(shows_none(model, outcome.row))
        else:
            self.assertTrue(shows_unbounded(model, outcome.table, outcome.row))

    def test_deeds_that_leave_the_stand_and_deeds_that_change_it(self):
        desk = Desk(MODEL)
        stand = desk.outcome.stand
        self.check(desk, ("mark", "a"))
        self.check(desk, ("sum", "d", [(1, "a"), (-1, "b")]))
        self.assertEqual((desk.outcome.stand, desk.outcome.steps), (stand, 0))
        self.check(desk, ("entry", "e", [(1, "a")]))
        self.check(desk, ("range", "c", None, None))
        self.check(desk, ("price", "b", -5))
        self.assertEqual(desk.outcome.kind, "unbounded")
        self.check(desk, ("range", "b", None, 3))
        self.assertEqual(len(desk.deeds()), 6)

    def test_an_entry_comes_into_the_basis_with_the_word_zero(self):
        desk = Desk(MODEL)
        self.assertEqual(desk.outcome.stand, ((0, 2), ("low", "low")))
        desk.act(("entry", "e", []))
        # Nothing else goes with it, so its reduced price is 0, and no cell is let go.
        self.assertEqual((desk.outcome.stand, desk.outcome.steps), (((0, 2, 3), ("low", "low", "zero")), 0))
        desk.undo()
        # If a goes with it, b pays for it: e is let go, and b comes in.
        desk.act(("entry", "e", [(1, "a")]))
        self.assertEqual((desk.outcome.stand, desk.outcome.steps), (((0, 1, 2), ("low", "low", "low")), 1))

    def test_a_leave_of_a_cell_outside_the_basis_and_of_one_in_it(self):
        desk = Desk(MODEL)
        self.assertEqual(desk.outcome.stand, ((0, 2), ("low", "low")))
        desk.act(("leave", "b"))
        self.assertEqual((desk.outcome.stand, desk.outcome.steps), (((0, 1), ("low", "low")), 0))
        desk.undo()
        self.check(desk, ("leave", "a"))
        self.assertEqual(desk.outcome.stand[0], (0, 1))
        desk.undo()
        self.check(desk, ("leave", "c"))

    def test_many_deeds(self):
        rng = random.Random(342)
        kinds, words = [], []
        for model in sample_models(5, 40, seed=343, entries=4) + roomy_models(30, seed=344):
            desk = Desk(model)
            for _ in range(8):
                deed = random_deed(rng, desk.model)
                try:
                    edited(desk.model, deed)
                except BookError as error:
                    before = shown(desk)
                    self.raises(type(error), desk.act, deed)
                    self.assertEqual(shown(desk), before)
                    continue
                self.check(desk, deed)
                kinds.append(desk.outcome.kind)
                words.append(deed[0])
        for kind in ("best", "none", "unbounded"):
            self.assertGreater(kinds.count(kind), 20)
        for word in ("range", "price", "mark", "unmark", "sum", "entry", "leave"):
            self.assertGreater(words.count(word), 15)

    def test_several_deeds_of_which_a_later_one_is_refused(self):
        desk = Desk(MODEL)
        desk.act(("price", "c", 1))
        desk.undo()
        before = shown(desk)
        good = ("range", "a", 1, 1)
        for bad, error in ((("range", "b", 3, 1), EmptyRange), (("fold", "b"), BadDeed), ((), BadDeed), (("leave", "x"), NoCell),
                           (("sum", "a", []), BadName), (("mark", "c"), NotWhole)):
            for deeds in ([bad], [good, bad], [good, bad, good], [good, ("price", "b", 9), bad]):
                self.raises(error, desk.act, *deeds)
                self.assertEqual(shown(desk), before)

    def test_a_later_deed_sees_what_the_earlier_ones_did(self):
        desk = Desk(MODEL)
        desk.act(("sum", "d", [(1, "a")]), ("sum", "e", [(1, "d")]), ("leave", "d"), ("price", "e", 2))
        self.assertEqual((desk.model.book.names, desk.model.prices), (("a", "b", "c", "e"), (1, (1, 2), 0, 2)))
        self.raises_cell(NoCell, "d", desk.act, ("mark", "a"), ("mark", "d"))

    def test_without_deeds_nothing_changes(self):
        desk = Desk(MODEL)
        desk.act(("price", "c", 1))
        desk.undo()
        desk.act()
        self.assertEqual(desk.deeds(), [])
        desk.redo()
        self.assertEqual(desk.deeds(), [("price", "c", 1)])


class UndoAndRedo(Case):
    def test_nothing_to_take_back_or_to_do_again(self):
        desk = Desk(MODEL)
        self.raises(NoDeed, desk.undo)
        self.raises(NoDeed, desk.redo)
        desk.act(("price", "c", 1))
        self.raises(NoDeed, desk.redo)
        desk.undo()
        self.raises(NoDeed, desk.undo)
        desk.redo()
        self.raises(NoDeed, desk.redo)

    def test_a_single_deed_of_several_is_taken_back(self):
        desk = Desk(MODEL)
        deeds = [("range", "b", 0, 0), ("price", "c", 1), ("leave", "a")]
        states = [shown(desk)[:6]]
        for deed in deeds:
            desk.act(deed)
            states.append(shown(desk)[:6])
        together = Desk(MODEL)
        together.act(*deeds)
        for at in (2, 1, 0):
            together.undo()
            self.assertEqual(shown(together), states[at] + [deeds[:at], deeds[at:]])
        for at in (1, 2, 3):
            together.redo()
            self.assertEqual(shown(together), states[at] + [deeds[:at], deeds[at:]])

    def test_no_redo_after_new_deeds(self):
        desk = Desk(MODEL)
        desk.act(("price", "c", 1), ("price", "c", 2))
        desk.undo()
        desk.act(("price", "c", 3))
        self.raises(NoDeed, desk.redo)
        self.assertEqual(desk.deeds(), [("price", "c", 1), ("price", "c", 3)])
        desk.undo()
        desk.undo()
        self.raises(NoDeed, desk.undo)
        desk.redo()
        desk.redo()
        self.assertEqual(desk.model.prices[2], 3)

    def test_redo_after_a_refused_deed_and_after_tried(self):
        desk = Desk(MODEL)
        desk.act(("price", "c", 1))
        desk.undo()
        self.raises(NoCell, desk.act, ("mark", "a"), ("mark", "x"))
        self.assertEqual(desk.tried([("range", "a", 1, 1)]), ["best"])
        self.raises(NoCell, desk.tried, [("range", "a", 1, 1), ("mark", "x")])
        desk.redo()
        self.assertEqual(desk.deeds(), [("price", "c", 1)])


class DeedsAndTried(Case):
    def test_each_deed_as_it_was_passed(self):
        deeds = [("sum", "d", [(0, "a"), (2, "b")]), ("entry", "e", []), ("range", "d", None, 5), ("unmark", "a")]
        desk = Desk(MODEL)
        desk.act(*deeds)
        self.assertEqual(desk.deeds(), deeds)

    def test_lists_may_be_changed_afterwards(self):
        terms = [(1, "a")]
        desk = Desk(MODEL)
        desk.act(("sum", "d", terms))
        terms.append((5, "b"))
        self.assertEqual(desk.deeds(), [("sum", "d", [(1, "a")])])
        found = desk.deeds()
        found[0][2].append((7, "c"))
        found.append(("mark", "a"))
        self.assertEqual(desk.deeds(), [("sum", "d", [(1, "a")])])
        desk.undo()
        desk.redo()
        self.assertEqual((desk.deeds(), desk.model.book.frame), ([("sum", "d", [(1, "a")])], ((1, 0, 1, 1), (0, 1, 1, 0))))

    def test_tried_deeds_and_deeds_done_one_after_the_other(self):
        rng = random.Random(345)
        for model in roomy_models(20, seed=346):
            desk, other = Desk(model), Desk(model)
            deeds, kinds = [], []
            for _ in range(5):
                deed = random_deed(rng, other.model)
                try:
                    other.act(deed)
                except BookError:
                    continue
                deeds.append(deed)
                kinds.append(other.outcome.kind)
            before = shown(desk)
            self.assertEqual(desk.tried(deeds), kinds)
            self.assertEqual(shown(desk), before)
            self.assertEqual(shown(Desk.replayed(model, deeds)), shown(other))

    def test_tried_with_no_deed_and_with_a_refused_one(self):
        desk = Desk(MODEL)
        self.assertEqual(desk.tried([]), [])
        before = shown(desk)
        for bad, error in ((("leave", "x"), NoCell), (("range", "a", 2, 1), EmptyRange), ((), BadDeed)):
            self.raises(error, desk.tried, [("price", "c", 1), bad, ("price", "c", 2)])
            self.assertEqual(shown(desk), before)
        self.assertEqual(desk.tried([("range", "b", 0, 0), ("range", "c", 3, None), ("range", "a", None, None)]),
                         ["best", "none", "best"])

    def test_replayed_desks(self):
        desk = Desk.replayed(MODEL, [("price", "c", 1), ("leave", "b")])
        self.assertIs(type(desk), Desk)
        self.assertEqual(desk.deeds(), [("price", "c", 1), ("leave", "b")])
        desk.undo()
        self.assertEqual(desk.model.book.size, 3)
        self.assertEqual(Desk.replayed(MODEL, []).deeds(), [])
        self.raises(NoCell, Desk.replayed, MODEL, [("price", "c", 1), ("leave", "x")])
        self.raises(BadDeed, Desk.replayed, MODEL, [("fold",)])

    def test_desks_are_apart(self):
        first, second = Desk(MODEL), Desk(MODEL)
        first.act(("price", "c", 1))
        self.assertEqual((second.deeds(), second.outcome.price, MODEL.prices), ([], solve(MODEL).price, (1, (1, 2), 0)))

    def test_an_outcome_that_was_read_stays_as_it_is(self):
        desk = Desk(MODEL)
        model, outcome = desk.model, desk.outcome
        before = fields(outcome)
        desk.act(("range", "a", 1, 1))
        self.assertEqual((fields(outcome), model.box[0]), (before, (0, 2)))


if __name__ == "__main__":
    unittest.main()
