"""Sessions: a model text, and commands that a desk answers."""

from fineststep.ahead import ahead
from fineststep.best import best_ranges
from fineststep.branches import branch, tree_best
from fineststep.clashes import least_clashes
from fineststep.deeds import read_deed
from fineststep.desk import Desk
from fineststep.drawing import draw_up
from fineststep.errors import BookError, NoAnswer, NoLeast, TooWide
from fineststep.exact import number_text
from fineststep.finest import finest_step
from fineststep.reading import read_model
from fineststep.report import outcome_text, report
from fineststep.writing import write_model


def run_desk(text):
    """Returns the list of the lines that answer the commands of a session."""
    lines = text.split("\n")
    many = lines.index("") if "" in lines else len(lines)
    desk = Desk(read_model("\n".join(lines[:many])))
    answers = []
    for command in lines[many + 1:]:
        answers.extend(answered(desk, command))
    return answers


def answered(desk, command):
    """Returns the lines that answer the command, which may be an error."""
    try:
        return answer_to(desk, command)
    except NoAnswer:
        return ["no answer"]
    except NoLeast:
        return ["no least price"]
    except TooWide as wide:
        return [f"too wide: {wide.size} cells"]
    except BookError:
        return ["refused"]


def answer_to(desk, command):
    """Returns the lines that answer the command."""
    if command == "report":
        return report(desk)
    if command == "model":
        return write_model(desk.model).split("\n")
    if command == "clashes":
        return clash_lines(desk.model)
    if command == "finest":
        return [str(finest_step(desk.model.book))]
    if command == "best":
        return best_lines(desk.model)
    if command == "whole":
        return [whole_line(desk.model)]
    if command == "ahead":
        return [ahead_line(desk.model)]
    if command == "lot":
        return lot_lines(desk)
    change(desk, command)
    return [outcome_text(desk.outcome)]


def change(desk, command):
    """Does what the command says to the desk; raises BadText if it is no command."""
    if command == "undo":
        desk.undo()
    elif command == "redo":
        desk.redo()
    else:
        desk.act(read_deed(command))


def clash_lines(model):
    """Returns a line for each least clash of the model."""
    names = model.book.names
    lines = [", ".join([f"{names[cell]} {side}" for cell, side in clash]) for clash in least_clashes(model)]
    return lines if lines else ["none"]


def best_lines(model):
    """Returns a line for each cell with its range over all best answers."""
    box = best_ranges(model)
    return [f"{name} {end_text(low)} {end_text(high)}" for name, (low, high) in zip(model.book.names, box)]


def end_text(end):
    """Returns the text of an end."""
    return "-" if end is None else number_text(end)


def whole_line(model):
    """Returns the price of a lowest whole answer."""
    best = tree_best(branch(model), model.prices)
    return "none" if best is None else number_text(best[0])


def ahead_line(model):
    """Returns the number of the steps ahead and that of the cells of the model left."""
    steps, left = ahead(model)
    return f"{len(steps)} {left.book.size}"


def lot_lines(desk):
    """Returns a line for each paper of the lot of the outcome's table."""
    lot = draw_up(desk.model.book, desk.outcome.table)
    return [" ".join([number_text(number) for number in [chance] + paper]) for paper, chance in lot]
