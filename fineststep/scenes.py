"""What counts in a step from a stand: its table, and the goal, the prices and the ranges while the step mends."""

from fineststep.books import unit
from fineststep.ends import end_toward, is_empty, lies_within
from fineststep.exact import minus, over, ratio
from fineststep.rows import negative, primitive
from fineststep.stands import leads_at, reduced_at, table_at


class Scene:
    """The table of a stand with its goal, None if the table is an answer, and the prices and ranges that count.

    The word is the one with which the goal comes into the basis.
    """

    def __init__(self, model, stand):
        self.table = table_at(model, stand)
        self.goal = goal_of(self.table, model.box)
        self.word = None
        self.prices = list(model.prices)
        self.box = list(model.box)
        if self.goal is not None:
            low = model.box[self.goal][0]
            self.word = "low" if is_empty(low, self.table[self.goal]) else "high"
            wanted = unit(model.book.size, self.goal)
            self.prices = negative(wanted) if self.word == "low" else wanted
            self.box = mending_box(self.table, model.box, self.goal)


def goal_of(table, box):
    """Returns the least cell whose number is out of its range, None if there is none."""
    for cell, (low, high) in enumerate(box):
        if not lies_within(table[cell], low, high):
            return cell
    return None


def mending_box(table, box, goal):
    """Returns the ranges that count while a step mends."""
    found = []
    for cell, (low, high) in enumerate(box):
        if is_empty(low, table[cell]):
            found.append((None, low if cell == goal else high))
        elif is_empty(table[cell], high):
            found.append((high if cell == goal else low, None))
        else:
            found.append((low, high))
    return found


def ending(model, stand, scene):
    """Returns the kind and the row of a stand from which no cell may be let go."""
    if scene.goal is None:
        return ("best", reduced_at(model.book, stand[0], model.prices))
    row = goal_row(model.book, stand[0], scene.goal)
    return ("none", negative(row) if scene.word == "low" else row)


def goal_row(book, basis, goal):
    """Returns the signed price turning that is above 0 at the goal and 0 at all other cells outside the basis."""
    row = unit(book.size, goal)
    for cell, lead in zip(basis, leads_at(book, basis)):
        row[cell] = ratio(-lead[goal], lead[cell])
    found = primitive(row)
    return found if found[goal] > 0 else negative(found)


def limits_along(row, table, box):
    """Returns a tuple (cell, limit) for each cell that limits how many times the row can be added to the table."""
    limits = []
    for cell, (low, high) in enumerate(box):
        if row[cell] != 0:
            end = end_toward(row[cell], low, high)
            if end is not None:
                limits.append((cell, over(minus(end, table[cell]), row[cell])))
    return limits
