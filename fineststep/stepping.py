"""Steps from a stand: a cell of the basis is let go, and it or another cell stops where a range ends."""

from fineststep.exact import least_of, less, size_of, times
from fineststep.rows import dot, negative
from fineststep.rules import check_rule, chosen_cell
from fineststep.scenes import Scene, ending, limits_along
from fineststep.stands import check_stand, leads_at, loose_cells, reduced_at


def step_from(model, stand, *, rule="first"):
    """Returns a tuple (swap or flip, next stand, list e), or (kind, same stand, row) if there is no step."""
    check_stand(model, stand)
    check_rule(model.book, rule)
    return step_made(model, stand, rule)


def step_made(model, stand, rule):
    """Returns the same for a stand of the model and a rule."""
    scene = Scene(model, stand)
    ways = ways_from(model, stand, scene.prices)
    if not ways:
        kind, row = ending(model, stand, scene)
        return (kind, stand, row)
    cell, row = chosen_way(ways, rule, scene)
    limits = limits_along(row, scene.table, scene.box)
    if not limits:
        return ("unbounded", stand, row)
    least = least_of([limit for _, limit in limits])
    stopping = [other for other, limit in limits if limit == least]
    if cell in stopping:
        return ("flip", flipped(stand, cell), row)
    other = chosen_cell(stopping, rule)
    word = "high" if row[other] > 0 else "low"
    return ("swap", swapped(stand, cell, other, scene.word if other == scene.goal else word), row)


def ways_from(model, stand, prices):
    """Returns a tuple (cell, reduced price, list e) for each cell that may be let go for these prices."""
    reduced = reduced_at(model.book, stand[0], prices)
    loose = loose_cells(model, stand, reduced)
    return [(cell, reduced[cell], lead if less(reduced[cell], 0) else negative(lead))
            for cell, lead in zip(stand[0], leads_at(model.book, stand[0])) if cell in loose]


def chosen_way(ways, rule, scene):
    """Returns the cell that the rule lets go, with its list e."""
    if rule == "gain":
        at = place_of_greatest([size_of(way[1]) for way in ways])
    elif rule == "fall":
        at = place_of_greatest([fall_along(way[2], scene) for way in ways])
    else:
        cells = [way[0] for way in ways]
        at = cells.index(chosen_cell(cells, rule))
    return (ways[at][0], ways[at][2])


def fall_along(row, scene):
    """Returns by how much the price falls in a step along the row, None if nothing limits the step."""
    least = least_of([limit for _, limit in limits_along(row, scene.table, scene.box)])
    return None if least is None else times(least, size_of(dot(scene.prices, row)))


def place_of_greatest(numbers):
    """Returns the index of the first greatest number; None is above all numbers."""
    at = 0
    for k, number in enumerate(numbers):
        if numbers[at] is not None and (number is None or less(numbers[at], number)):
            at = k
    return at


def flipped(stand, cell):
    """Returns the stand in which a cell of the basis has the word of its other end."""
    basis, ends = stand
    return (basis, tuple([other_word(word) if held == cell else word for held, word in zip(basis, ends)]))


def other_word(word):
    """Returns the word of the other end."""
    return "high" if word == "low" else "low"


def swapped(stand, cell, other, word):
    """Returns the stand in which another cell, with this word, is in the basis in place of a cell of it."""
    basis, ends = stand
    pairs = sorted([(held, end) for held, end in zip(basis, ends) if held != cell] + [(other, word)])
    return (tuple([held for held, _ in pairs]), tuple([end for _, end in pairs]))
