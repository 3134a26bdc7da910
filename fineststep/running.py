"""Runs: steps are made until there is none, or until a stand comes again."""

from fineststep.outcomes import outcome_at
from fineststep.rules import check_rule
from fineststep.stands import check_stand, first_stand
from fineststep.stepping import step_made


def solve(model, *, rule="first"):
    """Returns the outcome of the run from the first stand."""
    check_rule(model.book, rule)
    return outcome_of_run(model, first_stand(model), rule)


def solve_from(model, stand, *, rule="first"):
    """Returns the outcome of the run from the stand."""
    check_stand(model, stand)
    check_rule(model.book, rule)
    return outcome_of_run(model, stand, rule)


def outcome_of_run(model, stand, rule):
    """Returns the outcome of the run from a stand of the model by a rule."""
    stands, kind, row = run_from(model, stand, rule)
    return outcome_at(model, kind, stands[-1], row, len(stands) - 1)


def run_from(model, stand, rule):
    """Returns a tuple (stands, kind, row) of the run; in a ring the stand that comes again is the last one."""
    stands = [stand]
    seen = {stand: True}
    while True:
        kind, following, row = step_made(model, stands[-1], rule)
        if kind not in ("swap", "flip"):
            return (stands, kind, row)
        stands.append(following)
        if following in seen:
            return (stands, "ring", [])
        seen[following] = True
