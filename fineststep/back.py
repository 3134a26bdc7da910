"""What is found for a model left is led back over the reduction steps."""

from fineststep.ahead import left_after
from fineststep.checks import check_size, check_table
from fineststep.exact import minus, over, plus, times
from fineststep.rows import agrees, dot, negative, primitive
from fineststep.settled import settling_rule


def models_along(model, steps):
    """Yields the models along the steps."""
    here = model
    yield here
    for step in steps:
        here = left_after(here, step)
        yield here


def table_back(model, steps, table):
    """Returns the table that a table of the last model is led back to."""
    models = list(models_along(model, steps))
    check_table(models[-1].book, table)
    return tables_back(models, steps, table)


def tables_back(models, steps, table):
    """Returns the same for the models along the steps."""
    found = list(table)
    for k in range(len(steps) - 1, -1, -1):
        word, cell = steps[k][0], steps[k][1]
        if word == "blank":
            found = put_in(found, cell, settled_number(models[k].book, put_in(found, cell, 0), cell))
        elif word == "shut":
            found = put_in(found, cell, 0)
    return found


def put_in(numbers, cell, number):
    """Returns the list with the number in it at the cell."""
    return numbers[:cell] + [number] + numbers[cell:]


def settled_number(book, numbers, cell):
    """Returns the number at the cell with which the numbers are a table, 0 if every number is possible."""
    rule = settling_rule(book, [other for other in range(book.size) if other != cell], cell)
    total = 0
    if rule is not None:
        for free, factor in rule:
            total = plus(total, times(factor, numbers[free]))
    return total


def turning_back(model, steps, turning):
    """Returns the whole list, without a common divisor, that a turning of the last model is led back to."""
    found = table_back(model, steps, turning)
    row = primitive(found)
    return row if agrees(row, found) else negative(row)


def row_back(model, steps, row):
    """Returns the price row that a price row of the last model is led back to."""
    models = list(models_along(model, steps))
    check_size(models[-1].book, row)
    return priced_back(models, steps, row, [[0] * here.book.size for here in models])


def reduced_back(model, steps, reduced):
    """Returns the reduced prices that reduced prices of the last model are led back to."""
    models = list(models_along(model, steps))
    check_size(models[-1].book, reduced)
    return priced_back(models, steps, reduced, [here.prices for here in models])


def priced_back(models, steps, numbers, prices):
    """Returns the list that a list is led back to for which the prices of its model minus the list are a price row."""
    found = list(numbers)
    for k in range(len(steps) - 1, -1, -1):
        word, cell = steps[k][0], steps[k][1]
        if word == "blank":
            found = put_in(found, cell, 0)
        elif word == "shut":
            found = put_in(found, cell, number_priced(models[k].book, put_in(found, cell, 0), cell, prices[k]))
    return found


def number_priced(book, numbers, cell, prices):
    """Returns the number at the cell with which the prices minus the list are a price row, 0 if every number is so."""
    for line in book.frame:
        if line[cell] != 0:
            return over(minus(dot(prices, line), dot(numbers, line)), line[cell])
    return 0
