"""Points 72, 73 and 77: runs and their outcomes."""

import random
import unittest

from engine import slow_outcome, slow_step, stands_of
from fineststep.books import Book
from fineststep.certificates import shows_best, shows_none, shows_unbounded
from fineststep.errors import BadRule, BadStand
from fineststep.models import Model
from fineststep.outcomes import Outcome
from fineststep.reading import read_model
from fineststep.rules import RULES
from fineststep.running import solve, solve_from
from fineststep.stands import first_stand
from helpers import Case, engine_models, names, number_of, random_model, sample_models
from slow import slow_span

BOOK = Book(["a", "b", "c"], [[1, 0, 1], [0, 1, 1]])
FREE = (None, None)
RING = read_model("entry a from 0 price -2\nentry b from 0 price 6\nentry c from 0 price -1\nentry d from 0 price 6\n"
                  "sum e = - a + 6 b + 2 c - 6 d from 0\nsum f = - 1/2 a + 2 b + 1/2 c - d from 0")


def fields(end):
    """Returns the fields of an outcome."""
    return [end.kind, end.stand, end.table, end.row, end.price, end.steps]


class Solve(Case):
    def test_the_example(self):
        end = solve(Model(BOOK, [(0, 2), (0, None), (1, (5, 2))], prices=[1, (1, 2), 0]))
        self.assertIs(type(end), Outcome)
        self.assertEqual(fields(end), ["best", ((0, 2), ("low", "low")), (0, 1, 1), ((1, 2), 0, (1, 2)), (1, 2), 2])

    def test_no_steps(self):
        end = solve(Model(BOOK, [(0, 2), (0, None), (0, 5)], prices=[1, 1, 0]))
        self.assertEqual(fields(end), ["best", ((0, 1), ("low", "low")), (0, 0, 0), (1, 1, 0), 0, 0])
        self.assertEqual(fields(solve(Model(Book(["a"], []), [FREE], prices=[5]))), ["best", ((), ()), (0,), (0,), 0, 0])

    def test_no_price_where_the_kind_is_not_best(self):
        end = solve(Model(BOOK, [(0, 2), (0, 1), (5, 6)], prices=[1, 1, 1]))
        self.assertEqual(fields(end), ["none", ((0, 1), ("high", "high")), (2, 1, 3), (1, 1, -1), None, 2])
        end = solve(Model(BOOK, [(0, None), (0, 1), FREE], prices=[-1, 0, 0]))
        self.assertEqual(fields(end), ["unbounded", ((0, 1), ("low", "low")), (0, 0, 0), (1, 0, 1), None, 0])

    def test_from_other_stands(self):
        model = Model(BOOK, [(0, 2), (0, None), (1, (5, 2))], prices=[1, (1, 2), 0])
        for stand in stands_of(model):
            end = solve_from(model, stand)
            self.assertEqual([end.kind, end.price, end.table], ["best", (1, 2), (0, 1, 1)])
        self.assertEqual(solve_from(model, ((0, 2), ("low", "low"))).steps, 0)
        self.assertEqual(fields(solve_from(model, first_stand(model))), fields(solve(model)))

    def test_the_same_run_as_the_slow_engine(self):
        rng = random.Random(91)
        longest = 0
        for model in engine_models(7, 80, seed=91):
            order = list(range(model.book.size))
            rng.shuffle(order)
            for rule in RULES + (tuple(order),):
                expected = slow_outcome(model, first_stand(model), lambda model, stand: slow_step(model, stand, rule))
                self.assertEqual(fields(solve(model, rule=rule)), expected)
                stand = rng.choice(stands_of(model))
                expected = slow_outcome(model, stand, lambda model, stand: slow_step(model, stand, rule))
                self.assertEqual(fields(solve_from(model, stand, rule=rule)), expected)
                longest = max(longest, expected[5])
        self.assertGreater(longest, 4)

    def test_the_least_price(self):
        counts = {"best": 0, "none": 0, "unbounded": 0}
        for model in sample_models(7, 100, seed=92, entries=4) + engine_models(6, 60, seed=92):
            span = slow_span(model.book, model.box, model.prices)
            expected = "none" if span is None else "unbounded" if span[0] is None else "best"
            counts[expected] += 1
            for rule in RULES:
                end = solve(model, rule=rule)
                if rule == "gain" and end.kind == "ring":
                    continue
                self.assertEqual(end.kind, expected)
                self.assertEqual(end.price, number_of(span[0]) if expected == "best" else None)
                shown = {"best": lambda: shows_best(model, end.table, end.row), "none": lambda: shows_none(model, end.row),
                         "unbounded": lambda: shows_unbounded(model, end.table, end.row)}[expected]
                self.assertIs(shown(), True)
        self.assertGreater(min(counts.values()), 20)

    def test_wide_books(self):
        rng = random.Random(93)
        for size in (10, 13, 16):
            book = Book(names(size), [[int(k == cell) if k < 6 else rng.randint(-2, 2) for k in range(size)] for cell in range(6)])
            model = random_model(rng, book, near=True)
            found = {(end.kind, end.price) for end in [solve(model, rule=rule) for rule in RULES] if end.kind != "ring"}
            self.assertEqual(len(found), 1)


class Rings(Case):
    def test_the_example_of_point_77(self):
        self.assertEqual(RING.book.frame, ((2, 0, 0, 0, -2, -1), (0, 1, 0, 0, 6, 2), (0, 0, 2, 0, 4, 1), (0, 0, 0, 1, -6, -1)))
        first = ((0, 1, 2, 3), ("low",) * 4)
        self.assertEqual(fields(solve(RING, rule="gain")), ["ring", first, (0,) * 6, (), None, 6])

    def test_the_example_with_every_rule(self):
        end = solve(RING)
        self.assertEqual([end.kind, end.price], ["unbounded", None])
        for rule in ("first", "last", "fall", (5, 4, 3, 2, 1, 0), (2, 0, 4, 1, 3, 5)):
            end = solve(RING, rule=rule)
            self.assertEqual(end.kind, "unbounded")
            self.assertIs(shows_unbounded(RING, end.table, end.row), True)
            expected = slow_outcome(RING, first_stand(RING), lambda model, stand: slow_step(model, stand, rule))
            self.assertEqual(fields(end), expected)

    def test_a_ring_that_does_not_begin_at_the_first_stand(self):
        stands = stands_of(RING)
        ends = [solve_from(RING, stand, rule="gain") for stand in stands]
        self.assertTrue({"ring", "unbounded"} <= {end.kind for end in ends})
        for stand, end in zip(stands, ends):
            expected = slow_outcome(RING, stand, lambda model, stand: slow_step(model, stand, "gain"))
            self.assertEqual(fields(end), expected)

    def test_only_gain_ends_in_rings(self):
        rng = random.Random(94)
        for model in engine_models(7, 150, seed=94):
            found = set()
            for _ in range(4):
                order = list(range(model.book.size))
                rng.shuffle(order)
                for rule in ("first", "last", "fall", tuple(order)):
                    end = solve_from(model, rng.choice(stands_of(model)), rule=rule)
                    found.add((end.kind, end.price))
            self.assertEqual(len(found), 1)
            self.assertNotIn("ring", {kind for kind, _ in found})


class Errors(Case):
    MODEL = Model(BOOK, [(0, 2), (0, 1), (0, 6)])

    def test_bad_rule(self):
        for rule in ("", "gains", (), (0, 1), (0, 1, 3), (0, 1, 1), (0, 1, 2, 3), (-1, 0, 1)):
            self.raises(BadRule, solve, self.MODEL, rule=rule)
            self.raises(BadRule, solve_from, self.MODEL, ((0, 1), ("low", "low")), rule=rule)

    def test_bad_stand_comes_before_bad_rule(self):
        for stand in (((0, 3), ("low", "low")), ((1, 0), ("low", "low")), ((0, 1), ("low", "zero")), ((0,), ("low",))):
            self.raises(BadStand, solve_from, self.MODEL, stand)
            self.raises(BadStand, solve_from, self.MODEL, stand, rule="x")

    def test_the_rule_is_passed_by_its_name(self):
        self.raises(TypeError, solve, self.MODEL, "first")
        self.raises(TypeError, solve_from, self.MODEL, ((0, 1), ("low", "low")), "first")


if __name__ == "__main__":
    unittest.main()
