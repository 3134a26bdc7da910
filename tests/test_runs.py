"""Points 133 to 137: sessions."""

import random
import unittest

from fineststep.ahead import ahead
from fineststep.best import best_ranges
from fineststep.branches import branch, tree_best
from fineststep.clashes import least_clashes
from fineststep.deeds import read_deed, write_deed
from fineststep.desk import Desk
from fineststep.drawing import draw_up
from fineststep.errors import BadLine, BookError, NoAnswer, NoLeast, TooWide
from fineststep.exact import number_text
from fineststep.finest import finest_step
from fineststep.models import Model
from fineststep.reading import read_model
from fineststep.report import report
from fineststep.runs import run_desk
from fineststep.writing import write_model
from helpers import Case, names, roomy_models, sample_models
from reducing import loose_models
from test_branches import branch_models
from test_desk import random_deed
from texts import random_text, seeded, slow_fault, spoiled

EXAMPLE = "entry a to 2\nentry b from 0\nsum c = a + b from 3"
WORDS = ["undo", "redo", "report", "model", "clashes", "finest", "best", "whole", "ahead", "lot"]
NONE = "entry a from 0 to 2\nentry b from 0 to 1\nsum c = a + b from 5 to 6"
ENDLESS = "entry a from 0 price -1\nentry b from 0 to 1\nsum c = a + b"
BROKEN = "entry a from 0 to 3 price -1 whole\nentry b at 0\nsum c = 1/2 a + 1/2 b from 0 to 2 whole"
WIDE = "\n".join(f"entry c{k} from 0 to 1 price -1" for k in range(10))


def ask(text, *commands):
    """Returns the answers to the commands."""
    return run_desk("\n".join([text, ""] + list(commands)))


def shown(end):
    """Returns an end as best shows it."""
    return "-" if end is None else number_text(end)


def slow_answer(desk, command):
    """Returns the lines that answer a command, as points 134 to 137 say."""
    model = desk.model
    try:
        if command == "report":
            return report(desk)
        if command == "model":
            return write_model(model).split("\n")
        if command == "finest":
            return [number_text(finest_step(model.book))]
        if command == "clashes":
            found = [", ".join(f"{model.book.names[cell]} {side}" for cell, side in clash) for clash in least_clashes(model)]
            return found or ["none"]
        if command == "best":
            return [" ".join([name, shown(low), shown(high)]) for name, (low, high) in zip(model.book.names, best_ranges(model))]
        if command == "whole":
            best = tree_best(branch(model), model.prices)
            return ["none" if best is None else number_text(best[0])]
        if command == "ahead":
            steps, left = ahead(model, ["drop", "push", "blank", "shut"])
            return [f"{len(steps)} {left.book.size}"]
        if command == "lot":
            lot = draw_up(model.book, list(desk.outcome.table), toward=[0] * model.book.size)
            return [" ".join(map(number_text, [chance] + paper)) for paper, chance in lot]
        if command == "undo":
            desk.undo()
        elif command == "redo":
            desk.redo()
        else:
            desk.act(read_deed(command))
        return [report(desk)[-1]]
    except NoAnswer:
        return ["no answer"]
    except NoLeast:
        return ["no least price"]
    except TooWide as error:
        return [f"too wide: {error.size} cells"]
    except BookError:
        return ["refused"]


class Texts(Case):
    def test_the_example(self):
        self.assertEqual(run_desk(EXAMPLE + "\n\nprice b 1\nbest\nrange b at 0\nclashes\nundo"),
                         ["best 1", "a 2 2", "b 1 1", "c 3 3", "none -", "a high, b high, c low", "best 1"])

    def test_texts_without_commands(self):
        self.assertEqual(run_desk(EXAMPLE), [])
        self.assertEqual(run_desk(EXAMPLE + "\n"), [])
        self.assertEqual(run_desk("entry a"), [])

    def test_several_empty_lines_and_a_newline_at_the_end(self):
        self.assertEqual(run_desk(EXAMPLE + "\n\n"), ["refused"])
        self.assertEqual(run_desk(EXAMPLE + "\n\n\n\nfinest\n\n"), ["refused", "refused", "1", "refused", "refused"])
        self.assertEqual(run_desk("entry a\n\nentry b"), ["refused"])

    def test_texts_without_a_model(self):
        for text in ("", "\n", "\nfinest", "\n\nreport", "\nentry a\n\nfinest"):
            self.raises_line(1, 1, BadLine, run_desk, text)
        self.raises_line(1, 1, BadLine, run_desk, "finest")
        self.raises_line(2, 1, BadLine, run_desk, "entry a\nfinest\n\nreport")
        self.raises_line(1, 1, BadLine, run_desk, " \n\nreport")

    def test_faults_of_the_model_text_with_their_line_and_word(self):
        self.raises_line(2, 4, BadLine, run_desk, "entry a\nsum b = c\n\nfinest")
        self.raises_line(1, 6, BadLine, run_desk, "entry a from 1 to 0\n\nbest")
        self.raises_line(17, 1, BadLine, run_desk, "\n".join(f"entry a{k}" for k in range(17)) + "\n\nbest")
        rng = seeded(361)
        faults = 0
        for _ in range(400):
            # A line of which no word is left ends the model text, and what follows it are commands.
            text = spoiled(rng, random_text(rng)) + rng.choice(["", "\n", "\n\nmodel", "\n\nsum x = 0\nmodel"])
            lines = text.split("\n") + [""]
            first = "\n".join(lines[:lines.index("")])
            fault = slow_fault(first)
            if fault is None:
                desk = Desk(read_model(first))
                commands = text.split("\n")[lines.index("") + 1:]
                self.assertEqual(run_desk(text), [line for command in commands for line in slow_answer(desk, command)])
            else:
                self.raises_line(*fault, BadLine, run_desk, text)
                faults += 1
        self.assertTrue(100 < faults < 390)

    def test_a_model_with_the_most_cells(self):
        text = "\n".join(f"entry c{k} from 0 to 1 price -1" for k in range(16))
        self.assertEqual(ask(text, "sum d = c0", "finest", "leave c0", "sum d = c1", "whole"),
                         ["refused", "too wide: 16 cells", "best -15", "best -15", "-15"])


class Commands(Case):
    def test_deeds(self):
        self.assertEqual(ask(EXAMPLE, "price b 1", "range a to 1", "mark a", "sum d = 2 a - b", "price d 1/2", "unmark a", "leave d"),
                         ["best 1", "best 2", "best 2", "best 2", "unbounded -", "unbounded -", "best 2"])
        self.assertEqual(ask(EXAMPLE, "price b 1", "entry e = - 1/2 c", "range e from 0", "leave e"),
                         ["best 1", "best 0", "best 1", "best 0"])
        self.assertEqual(ask(EXAMPLE, "price b 1", "range a to 1", "price a -1/2", "range b"), ["best 1", "best 2", "best 3/2", "best 3/2"])
        self.assertEqual(ask(EXAMPLE, "range b at 0", "range a", "price c -1"), ["none -", "best 0", "unbounded -"])

    def test_undo_and_redo(self):
        self.assertEqual(ask(EXAMPLE, "undo", "redo", "price b 1", "undo", "redo", "redo", "undo", "price b 2", "redo", "undo", "undo"),
                         ["refused", "refused", "best 1", "best 0", "best 1", "refused", "best 0", "best 2", "refused", "best 0", "refused"])

    def test_report_and_model(self):
        self.assertEqual(ask("entry a from 1 to 3 price 2\nsum b = - 3 a price 1/2 whole", "report", "model"), [
            "a                        1             1             3",
            "b                        -            -3             -",
            "best 1/2",
            "entry a from 1 to 3 price 2",
            "sum b = - 3 a price 1/2 whole"])
        self.assertEqual(ask(NONE, "report")[-1], "none -")
        self.assertEqual(ask("entry a from 3 to 3\nsum b = 1 a + 0 a", "model"), ["entry a at 3", "sum b = a"])

    def test_clashes(self):
        self.assertEqual(ask(EXAMPLE, "clashes"), ["none"])
        self.assertEqual(ask(NONE, "clashes"), ["a high, b high, c low"])
        self.assertEqual(ask("sum z = 0 from 1 to 2\nentry a to 1\nsum b = a from 2\nsum c = - a from 0", "clashes"),
                         ["z low", "a high, b low", "b low, c low"])

    def test_finest(self):
        self.assertEqual(ask(BROKEN, "finest"), ["2"])
        self.assertEqual(ask("sum a = 0", "finest"), ["1"])

    def test_best(self):
        self.assertEqual(ask("entry a from 0\nentry b from 0\nsum c = a + b from 3", "best", "price c 1", "best", "price a -1/2", "best"),
                         ["a 0 -", "b 0 -", "c 3 -", "best 3", "a 0 3", "b 0 3", "c 3 3", "best 3/2", "a 3 3", "b 0 0", "c 3 3"])
        self.assertEqual(ask(NONE, "best"), ["no answer"])
        self.assertEqual(ask(ENDLESS, "best"), ["no least price"])
        self.assertEqual(ask(WIDE, "best"), ["too wide: 10 cells"])

    def test_whole(self):
        self.assertEqual(ask(BROKEN, "whole", "report")[0], "-2")
        self.assertEqual(ask("entry a at 1 whole\nentry b at 0\nsum c = 1/2 a + 1/2 b from 0 to 1 whole", "whole"), ["none"])
        self.assertEqual(ask(NONE, "whole"), ["none"])
        # An entry without an end, and too many lists of whole numbers.
        self.assertEqual(ask(ENDLESS, "whole"), ["refused"])
        self.assertEqual(ask("entry a from 1 to 201 whole", "whole", "range a from 1 to 200", "whole"), ["refused", "best 0", "0"])
        self.assertEqual(ask(WIDE, "whole"), ["-10"])
        self.assertEqual(ask("entry a from 0 to 1/2 price -1", "whole"), ["-1/2"])

    def test_ahead(self):
        # The low end of c is dropped, a is pushed down, the high end of c is dropped, b is pushed down; c is blanked, a shut.
        self.assertEqual(ask("entry a from 0 to 2\nentry b from 0 to 5\nsum c = a + b from 0 to 6", "ahead"), ["6 1"])
        self.assertEqual(ask("entry a at 0\nentry b at 0", "ahead", "range a at 1", "ahead", "range b at 1", "ahead"),
                         ["1 1", "best 0", "1 1", "best 0", "0 2"])
        self.assertEqual(ask(WIDE, "ahead"), ["too wide: 10 cells"])

    def test_lot(self):
        self.assertEqual(ask("entry a at 1/2\nentry b at 1/2\nsum c = a + b", "lot"), ["1/2 0 1 1", "1/2 1 0 1"])
        self.assertEqual(ask("entry a at 3\nsum b = - 1/2 a", "lot"), ["1 3 -3/2"])
        # The table of the outcome is asked for, also if it is no answer.
        self.assertEqual(ask("entry a from 0 to 5/2\nsum b = a from 3", "lot"), ["1/2 2 2", "1/2 3 3"])
        self.assertEqual(ask(WIDE, "lot"), ["too wide: 10 cells"])

    def test_too_wide_and_the_others(self):
        self.assertEqual(ask(WIDE, "clashes", "finest", "undo", "model")[:3], ["too wide: 10 cells"] * 2 + ["refused"])
        self.assertEqual(ask(WIDE, "leave c0", "finest", "best"), ["best -9", "1"] + [f"c{k} 1 1" for k in range(1, 10)])

    def test_lines_that_are_no_command(self):
        for line in ("", " ", "Report", "report ", " report", "undo 1", "fold a", "price b", "price b 01", "range b at", "entry d",
                     "mark  a", "best best", "sum d = a + 1 b", "whole.", "none"):
            self.assertEqual(ask(EXAMPLE, line), ["refused"], line)

    def test_commands_that_are_refused_leave_the_desk_as_it_was(self):
        refused = ["mark z", "leave z", "range a from 3 to 1", "sum a = b", "sum d = b + b", "sum d = z", "entry A = a", "", "redo"]
        for commands in (["price b 1", "undo"], ["price b 1"]):
            before = ask(EXAMPLE, *commands, "report", "model")
            for line in refused:
                if line == "redo" and commands[-1] == "undo":
                    continue
                self.assertEqual(ask(EXAMPLE, *commands, line, "report", "model"),
                                 before[:len(commands)] + ["refused"] + before[len(commands):], line)
        # What was taken back can still be done again.
        self.assertEqual(ask(EXAMPLE, "price b 1", "undo", "mark z", "best", "redo")[-1], "best 1")

    def test_names_that_are_commands(self):
        self.assertEqual(ask("entry undo from 1\nsum report = undo price 1", "price undo 2", "leave report", "undo", "mark best"),
                         ["best 3", "best 2", "best 3", "refused"])


class ManySessions(Case):
    def check(self, model, commands):
        """Compares a session with a desk of its own; returns the answers."""
        desk = Desk(model)
        expected = [line for command in commands for line in slow_answer(desk, command)]
        found = ask(write_model(model), *commands)
        self.assertEqual(found, expected)
        return found

    def test_each_command_in_models_of_each_kind(self):
        models = sample_models(5, 20, seed=362) + roomy_models(10, seed=362) + loose_models(363, 20) + branch_models(364, 15)
        seen = [line for model in models for line in self.check(model, WORDS)]
        for line in ("no answer", "no least price", "refused", "none"):
            self.assertGreater(seen.count(line), 2, line)

    def test_wide_models(self):
        for size in (10, 13, 16):
            model = Model(read_model("\n".join(f"entry {name}" for name in names(size))).book, [(0, 1)] * size)
            found = self.check(model, WORDS)
            self.assertEqual(found.count(f"too wide: {size} cells"), 5)

    def test_many_commands(self):
        rng = random.Random(365)
        seen = []
        for model in sample_models(4, 20, seed=366, entries=3) + roomy_models(10, seed=367):
            desk = Desk(model)
            commands = []
            for _ in range(12):
                if rng.random() < 0.5:
                    command = write_deed(random_deed(rng, desk.model))
                else:
                    command = rng.choice(WORDS + ["undo", "redo", "nothing"])
                slow_answer(desk, command)
                commands.append(command)
            seen += self.check(model, commands)
        self.assertGreater(len([line for line in seen if line.startswith("best ")]), 50)


if __name__ == "__main__":
    unittest.main()
