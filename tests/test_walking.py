"""Points 76 and 77: the stands along a run, and its ring."""

import inspect
import random
import unittest

from engine import slow_run, slow_step
from fineststep.books import Book
from fineststep.errors import BadRule
from fineststep.models import Model
from fineststep.rules import RULES
from fineststep.running import solve
from fineststep.stands import first_stand
from fineststep.walking import ring, stands_along
from helpers import Case, engine_models
from test_running import RING

BOOK = Book(["a", "b", "c"], [[1, 0, 1], [0, 1, 1]])


class Walking(Case):
    def test_without_a_ring(self):
        model = Model(BOOK, [(0, 2), (0, None), (1, (5, 2))], prices=[1, (1, 2), 0])
        self.assertEqual(list(stands_along(model)), [((0, 1), ("low", "low")), ((1, 2), ("low", "low")), ((0, 2), ("low", "low"))])
        self.assertEqual(ring(model), [])
        self.assertEqual(list(stands_along(Model(Book(["a"], []), [(None, None)]))), [((), ())])

    def test_with_a_ring(self):
        stands = list(stands_along(RING, rule="gain"))
        self.assertEqual(len(stands), 7)
        self.assertEqual([stands[0], stands[6]], [first_stand(RING)] * 2)
        self.assertEqual(len(set(stands)), 6)
        self.assertEqual(ring(RING, rule="gain"), stands[:6])
        for rule in ("first", "last", "fall", (5, 4, 3, 2, 1, 0)):
            self.assertEqual(ring(RING, rule=rule), [])

    def test_a_ring_after_some_steps(self):
        # The run by gain first mends g, and then comes into the ring of the example.
        frame = [list(row) + [0] for row in RING.book.frame] + [[0] * 6 + [1]]
        book = Book(list("abcdefg"), frame)
        model = Model(book, list(RING.box) + [(0, 5)], prices=list(RING.prices) + [-7])
        stands = list(stands_along(model, rule="gain"))
        self.assertEqual(len(stands), 8)
        self.assertEqual(stands[0][1][-1], "low")
        self.assertEqual(stands[1], stands[7])
        self.assertEqual(ring(model, rule="gain"), stands[1:7])
        self.assertEqual([solve(model, rule="gain").kind, solve(model, rule="gain").steps], ["ring", 7])

    def test_the_same_run_as_the_slow_engine(self):
        rng = random.Random(95)
        for model in engine_models(6, 60, seed=95):
            order = list(range(model.book.size))
            rng.shuffle(order)
            for rule in RULES + (tuple(order),):
                stands, kind, _ = slow_run(model, first_stand(model), lambda model, stand: slow_step(model, stand, rule))
                self.assertEqual(list(stands_along(model, rule=rule)), stands)
                again = stands[stands.index(stands[-1]):-1] if kind == "ring" else []
                self.assertEqual(ring(model, rule=rule), again)
                end = solve(model, rule=rule)
                self.assertEqual((end.steps, end.stand), (len(stands) - 1, stands[-1]))

    def test_it_is_a_generator_function(self):
        self.assertTrue(inspect.isgeneratorfunction(stands_along))
        self.assertIs(type(ring(RING, rule="gain")), list)

    def test_bad_rule(self):
        model = Model(BOOK, [(0, 2), (0, 1), (0, 6)])
        for rule in ("", "ring", (0, 1), (0, 1, 1), (0, 1, 2, 3)):
            iteration = stands_along(model, rule=rule)
            self.raises(BadRule, next, iteration)
            self.raises(BadRule, ring, model, rule=rule)


if __name__ == "__main__":
    unittest.main()
