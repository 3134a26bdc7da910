"""A desk: deeds are done to a model, taken back and done again, and its outcome goes along."""

from fineststep.books import cell_of
from fineststep.edits import edited
from fineststep.errors import NoDeed
from fineststep.running import solve, solve_from
from fineststep.stands import first_stand, fitted_stand


class Desk:
    """A model with its outcome, which deeds change."""

    def __init__(self, model):
        # A state is a tuple (deed, model, outcome): what the deed led to. Those behind the present one can be redone.
        self._states = [(None, model, solve(model))]
        self._at = 0

    @property
    def model(self):
        """The model after the deeds."""
        return self._states[self._at][1]

    @property
    def outcome(self):
        """The outcome of the model."""
        return self._states[self._at][2]

    @classmethod
    def replayed(cls, model, deeds):
        """Returns a new desk of the model that has done the deeds."""
        desk = cls(model)
        desk.act(*deeds)
        return desk

    def act(self, *deeds):
        """Does the deeds one after the other, or none of them if one raises an error."""
        states = states_after(self._states[self._at], deeds)
        if states:
            self._states = self._states[:self._at + 1] + states
            self._at += len(states)

    def undo(self):
        """Takes the last deed back."""
        if self._at == 0:
            raise NoDeed("there is no deed to take back")
        self._at -= 1

    def redo(self):
        """Does the deed again that was taken back last."""
        if self._at + 1 == len(self._states):
            raise NoDeed("there is no deed to do again")
        self._at += 1

    def deeds(self):
        """Returns the list of the deeds that are done and not taken back."""
        return [copied(state[0]) for state in self._states[1:self._at + 1]]

    def tried(self, deeds):
        """Returns the list of the kinds of the outcomes after each of the deeds, and leaves the desk as it is."""
        return [state[2].kind for state in states_after(self._states[self._at], deeds)]


def states_after(state, deeds):
    """Returns the list of the states after each of the deeds, which are done one after the other."""
    found, here = [], state
    for deed in deeds:
        here = state_after(here, deed)
        found.append(here)
    return found


def state_after(state, deed):
    """Returns the state after the deed."""
    _, model, outcome = state
    changed = edited(model, deed)
    return (copied(deed), changed, solve_from(changed, stand_after(model, outcome.stand, deed, changed)))


def stand_after(model, stand, deed, changed):
    """Returns the stand of the changed model from which its run begins after the deed."""
    basis, words = stand
    if deed[0] == "entry":
        basis, words = basis + (model.book.size,), words + ("zero",)
    if deed[0] == "leave":
        cell = cell_of(model.book, deed[1])
        if cell in basis:
            return first_stand(changed)
        basis = tuple([other - 1 if other > cell else other for other in basis])
    return fitted_stand(changed, basis, words)


def copied(deed):
    """Returns the deed with a new list of terms, if it has terms."""
    return deed[:2] + (list(deed[2]),) if deed[0] in ("sum", "entry") else deed
