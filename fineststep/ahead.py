"""Reduction steps: a model is made simpler before it is solved."""

from fineststep.checks import check_narrow
from fineststep.drops import SIDES, drop_holds, first_drop
from fineststep.errors import BadAhead
from fineststep.leaving import blanked, first_blank, first_shut, may_blank, may_shut, shut
from fineststep.models import with_range
from fineststep.pushes import first_push, push_holds

STEP_RULES = ("drop", "push", "blank", "shut")


def step_holds(model, step):
    """Returns True if the reduction step may be done with the model, otherwise False."""
    word = step[0] if step else ""
    if word in ("blank", "shut"):
        if len(step) != 2 or not is_cell(model.book, step[1]):
            return False
        return may_blank(model, step[1]) if word == "blank" else may_shut(model, step[1])
    if word not in STEP_RULES or len(step) != 4:
        return False
    _, cell, side, row = step
    if not is_cell(model.book, cell) or side not in SIDES or len(row) != model.book.size:
        return False
    return drop_holds(model, cell, side, row) if word == "drop" else push_holds(model, cell, side, row)


def is_cell(book, cell):
    """Returns True if the cell is in range, otherwise False."""
    return 0 <= cell < book.size


def left_after(model, step):
    """Returns the model that the step leaves."""
    if not step_holds(model, step):
        raise BadAhead("the step may not be done")
    return done(model, step)


def done(model, step):
    """Returns the model that a step leaves that may be done."""
    word, cell = step[0], step[1]
    if word == "blank":
        return blanked(model, cell)
    if word == "shut":
        return shut(model, cell)
    low, high = model.box[cell]
    if word == "drop":
        return with_range(model, cell, None if step[2] == "low" else low, None if step[2] == "high" else high)
    end = low if step[2] == "low" else high
    return with_range(model, cell, end, end)


def ahead(model, rules=("drop", "push", "blank", "shut")):
    """Returns a tuple of the list of the steps ahead and the model left."""
    check_narrow(model.book)
    for rule in rules:
        if rule not in STEP_RULES:
            raise BadAhead("a rule is none of the four")
    if len(set(rules)) < len(rules):
        raise BadAhead("a rule stands twice")
    steps, here = [], model
    step = first_step(here, rules)
    while step is not None:
        steps.append(step)
        here = done(here, step)
        step = first_step(here, rules)
    return (steps, here)


def first_step(model, rules):
    """Returns the first step of the first rule that has one, None if no rule has a step."""
    for rule in rules:
        step = step_by(model, rule)
        if step is not None:
            return step
    return None


def step_by(model, rule):
    """Returns the first step of the rule, None if it has none."""
    if rule == "drop":
        return first_drop(model)
    if rule == "push":
        return first_push(model)
    return first_blank(model) if rule == "blank" else first_shut(model)
