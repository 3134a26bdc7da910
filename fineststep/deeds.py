"""Deeds, what can be done to a model, are written as lines and read again."""

from fineststep.books import is_name
from fineststep.errors import BadDeed, BadLine, BadText
from fineststep.exact import minus, number_text
from fineststep.words import Words
from fineststep.writing import range_text, sign_of, term_text

WITH_NAME = ("mark", "unmark", "leave")
WITH_TERMS = ("sum", "entry")


def check_deed(deed):
    """Raises BadDeed unless the tuple has the form of a deed."""
    if not deed or len(deed) != length_of(deed[0]):
        raise BadDeed("the tuple is not a deed")


def length_of(word):
    """Returns the length of the deeds with this first word, None if there is none."""
    if word in WITH_NAME:
        return 2
    if word == "price" or word in WITH_TERMS:
        return 3
    return 4 if word == "range" else None


def write_deed(deed):
    """Returns the written form of the deed."""
    check_deed(deed)
    line = f"{deed[0]} {deed[1]}"
    if deed[0] == "range":
        return line + range_text(deed[2], deed[3])
    if deed[0] == "price":
        return f"{line} {number_text(deed[2])}"
    if deed[0] in WITH_TERMS:
        return f"{line} ={terms_text(deed[2])}"
    return line


def terms_text(terms):
    """Returns the terms as they stand after `=`, with a space before each word."""
    text = ""
    for number, name in terms:
        if number != 0:
            text += sign_of(number, not text) + term_text(number, name)
    return text if text else " 0"


def read_deed(line):
    """Returns the deed whose written form is the line."""
    try:
        deed = deed_in(Words(1, line))
    except BadLine:
        raise BadText("the line is not the written form of a deed")
    # Each deed has one written form only, so this finds 1 a, 0 a, - -2 a and from 3 to 3.
    if write_deed(deed) != line:
        raise BadText("the line is not the written form of a deed")
    return deed


def deed_in(words):
    """Takes all words of a line and returns the deed that they describe."""
    word = words.peek()
    if length_of(word) is None:
        words.refuse()
    words.take()
    name = name_in(words)
    deed = (word, name)
    if word == "range":
        deed = (word, name) + ends_in(words)
    elif word == "price":
        deed = (word, name, words.take_number())
    elif word in WITH_TERMS:
        words.expect("=")
        deed = (word, name, terms_in(words))
    words.finish()
    return deed


def name_in(words):
    """Takes a name and returns it."""
    name = words.peek()
    if name is None or not is_name(name):
        words.refuse()
    return words.take()


def ends_in(words):
    """Takes the range of a deed and returns its ends; the low end may be above the high end."""
    if words.took("at"):
        number = words.take_number()
        return (number, number)
    low = words.take_number() if words.took("from") else None
    high = words.take_number() if words.took("to") else None
    return (low, high)


def terms_in(words):
    """Takes the terms of a deed, or the word 0, and returns the terms."""
    if words.took("0"):
        return []
    terms = [term_in(words, words.took("-"))]
    while words.peek() is not None:
        negated = words.took("-")
        if not negated:
            words.expect("+")
        terms.append(term_in(words, negated))
    return terms


def term_in(words, negated):
    """Takes a term and returns it, a tuple (number, name)."""
    number = words.number_ahead()
    if number is None:
        number = 1
    else:
        words.take()
    return (minus(0, number) if negated else number, name_in(words))


def write_journal(deeds):
    """Returns the journal of the deeds."""
    return "\n".join([write_deed(deed) for deed in deeds])


def read_journal(text):
    """Returns the list of the deeds of a journal."""
    return [read_deed(line) for line in text.split("\n")] if text else []
