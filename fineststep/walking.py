"""The stands along a run."""

from fineststep.rules import check_rule
from fineststep.running import run_from
from fineststep.stands import first_stand


def stands_along(model, *, rule="first"):
    """Yields the stands along the run from the first stand."""
    check_rule(model.book, rule)
    stands = run_from(model, first_stand(model), rule)[0]
    for stand in stands:
        yield stand


def ring(model, *, rule="first"):
    """Returns the ring of this run as a list, empty if it does not end in one."""
    check_rule(model.book, rule)
    stands, kind, _ = run_from(model, first_stand(model), rule)
    return stands[stands.index(stands[-1]):-1] if kind == "ring" else []
