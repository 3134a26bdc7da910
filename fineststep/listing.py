"""Tables are written as texts, read again, and shown in columns."""

from fineststep.books import is_table
from fineststep.checks import check_table
from fineststep.errors import BadLine, NotTable
from fineststep.exact import number_text
from fineststep.words import Words

NAME_FIELD = 12
NUMBER_FIELD = 14


def write_table(book, table):
    """Returns the table text of the table."""
    check_table(book, table)
    return "\n".join([f"{name} {number_text(number)}" for name, number in zip(book.names, table)])


def read_table(book, text):
    """Returns the table that the table text describes."""
    lines = text.split("\n")
    table = [read_line(cell, name, lines) for cell, name in enumerate(book.names)]
    if len(lines) > book.size:
        raise BadLine(book.size + 1, 1)
    if not is_table(book, table):
        raise NotTable("the numbers are not a table of the book")
    return table


def read_line(cell, name, lines):
    """Returns the number in the line of the cell."""
    if cell == len(lines):
        raise BadLine(cell + 1, 1)
    words = Words(cell + 1, lines[cell])
    words.expect(name)
    number = words.take_number()
    words.finish()
    return number


def columns(model, table):
    """Returns the lines that show the table between the ends of the model, one for each cell."""
    check_table(model.book, table)
    shown = []
    for name, (low, high), number in zip(model.book.names, model.box, table):
        shown.append(name.ljust(NAME_FIELD) + in_field(low) + in_field(number) + in_field(high))
    return shown


def in_field(end):
    """Returns the text of a number, or of an end that may be None, in its field."""
    text = "-" if end is None else number_text(end)
    return text.rjust(NUMBER_FIELD)
