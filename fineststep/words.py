"""The words of a line, taken one after the other from the left, with the fault of the line if it has one."""

from fineststep.errors import BadLine, BadText
from fineststep.exact import read_number


class Words:
    """The words of one line; `at` is the number of words that are taken."""

    def __init__(self, line, text):
        self.line = line
        self.words = text.split(" ")
        self.at = 0

    def peek(self, further=0):
        """Returns the next word, or one further on, None if the line has ended before it."""
        at = self.at + further
        return self.words[at] if at < len(self.words) else None

    def refuse(self):
        """Raises BadLine: the next word, or its absence, is the fault."""
        raise BadLine(self.line, self.at + 1)

    def take(self):
        """Takes the next word, which is there, and returns it."""
        self.at += 1
        return self.words[self.at - 1]

    def took(self, word):
        """Takes the next word if it is this one; returns True if it is, otherwise False."""
        if self.peek() != word:
            return False
        self.at += 1
        return True

    def expect(self, word):
        """Takes the next word, which must be this one."""
        if not self.took(word):
            self.refuse()

    def number_ahead(self):
        """Returns the number that the next word is, None if it is none."""
        word = self.peek()
        return None if word is None else number_or_none(word)

    def take_number(self):
        """Takes the next word, which must be a number, and returns the number."""
        number = self.number_ahead()
        if number is None:
            self.refuse()
        self.at += 1
        return number

    def finish(self):
        """Makes sure that no word is left."""
        if self.peek() is not None:
            self.refuse()


def number_or_none(text):
    """Returns the number whose written form is the text, None if there is none."""
    try:
        return read_number(text)
    except BadText:
        return None
