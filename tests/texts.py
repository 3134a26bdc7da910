"""Model texts for the tests, and a second way to find their faults.

The second way does not read a text once from the left. It keeps all places of the grammar of points 22 and 23 at which
a line may be after its first words. The fault is the first word that leaves no such place.
"""

import random
import re
from fractions import Fraction

NUMBER = re.compile("(-?[1-9][0-9]*|0)(/([1-9][0-9]*))?")
KEYWORDS = ("from", "to", "at", "price", "whole")
NAME_SIGNS = "abcdefghijklmnopqrstuvwxyz0123456789"


def value_of(word):
    """Returns the number that the word is as a Fraction, or None."""
    found = NUMBER.fullmatch(word)
    if found is None or max(len(digits) for digits in word.lstrip("-").split("/")) > 400:
        return None
    top, bottom = int(found[1]), int(found[3] or 1)
    # A fraction is in lowest terms and has a bottom of at least 2.
    if found[2] and Fraction(top, bottom).denominator != bottom or found[3] == "1":
        return None
    return Fraction(top, bottom)


def is_good_name(word):
    """Returns True if the name is well formed."""
    return 1 <= len(word) <= 12 and word[0].isalpha() and all(sign in NAME_SIGNS for sign in word)


def next_places(place, word, known):
    """Yields the places after a word. A place is a tuple of its word, the low end, and whether the ends are whole."""
    at, low, whole = place
    value = value_of(word)
    if at == "start" and word in ("entry", "sum"):
        yield (word, low, whole)
    elif at in ("entry", "sum") and is_good_name(word) and word not in known:
        yield ("named" if at == "entry" else "sum named", low, whole)
    elif at == "sum named" and word == "=":
        yield ("=", low, whole)
    elif at == "=":
        if word == "0":
            yield ("nothing", low, whole)
            if known:
                yield ("nought", low, whole)
        elif known:
            if word == "-":
                yield ("sign", low, whole)
            yield from next_places(("sign", low, whole), word, known)
    elif at == "sign":
        if value is not None:
            yield ("factor", low, whole)
        if word in known:
            yield ("term", low, whole)
    elif at in ("factor", "nought"):
        if word in known and not (at == "nought" and word in KEYWORDS):
            yield ("term", low, whole)
    elif at == "term" and word in ("+", "-"):
        yield ("sign", low, whole)
    elif at in ("from", "to", "at", "price"):
        if value is not None and not (at == "to" and low is not None and value < low):
            ends_whole = whole if at == "price" else whole and value.denominator == 1
            yield (at + " done", value if at == "from" else low, ends_whole)
    elif word in ("from", "to", "at") and at in ("named", "nothing", "term"):
        yield (word, None, True)
    elif word == "to" and at == "from done":
        yield ("to", low, whole)
    elif word == "price" and at in ("named", "nothing", "term", "from done", "to done", "at done"):
        yield ("price", low, whole)
    elif word == "whole" and whole and at in ("named", "nothing", "term", "from done", "to done", "at done", "price done"):
        yield ("end", low, whole)


COMPLETE = ("named", "nothing", "term", "from done", "to done", "at done", "price done", "end")


def slow_fault(text):
    """Returns the fault of a model text as a tuple (line, word), or None."""
    known = []
    for line, content in enumerate(text.split("\n"), 1):
        if line == 17:
            return (17, 1)
        words = content.split(" ")
        places = {("start", None, True)}
        for at, word in enumerate(words, 1):
            places = {after for place in places for after in next_places(place, word, known)}
            if not places:
                return (line, at)
        if not any(place[0] in COMPLETE for place in places):
            return (line, len(words) + 1)
        known.append(words[1])
    return None


def random_line(rng, name, known):
    """Returns a line without a fault."""
    words = ["entry", name]
    if rng.random() < 0.6:
        words = ["sum", name, "="] + random_terms(rng, known)
    words += rng.choice([[], [], ["from", "-1"], ["to", "5/2"], ["from", "0", "to", "3"], ["at", "2"], ["at", "-1/2"]])
    words += rng.choice([[], [], ["price", "-7/2"], ["price", "0"]])
    if rng.random() < 0.3 and not any("/" in word and words[k - 1] != "price" for k, word in enumerate(words)):
        words.append("whole")
    return " ".join(words)


def random_terms(rng, known):
    """Returns the words of terms, or the word 0."""
    if not known or rng.random() < 0.15:
        return ["0"]
    words = ["-"] if rng.random() < 0.3 else []
    for k in range(rng.randint(1, 4)):
        if k > 0:
            words.append(rng.choice("+-"))
        if rng.random() < 0.6:
            words.append(rng.choice(["0", "1", "2", "-1", "1/2", "-3/2", "12"]))
        words.append(rng.choice(known))
    if words[0] == "0" and words[1] in KEYWORDS:
        words[0] = "3"
    return words


def random_text(rng, most=6):
    """Returns a model text without a fault; some of its names are words of the grammar."""
    pool = ["a", "b", "c1", "x", "from", "to", "at", "price", "whole", "sum", "entry", "z9"]
    rng.shuffle(pool)
    lines, known = [], []
    for name in pool[:rng.randint(1, most)]:
        lines.append(random_line(rng, name, known))
        known.append(name)
    return "\n".join(lines)


def spoiled(rng, text):
    """Returns the text with one word left out, put in or changed."""
    pieces = [line.split(" ") for line in text.split("\n")]
    words = rng.choice(pieces)
    at = rng.randrange(len(words) + 1)
    word = rng.choice(["", "a", "b", "0", "1", "-1", "2/4", "1/2", "+", "-", "=", "entry", "sum", "from", "to", "at", "price",
                       "whole", "A", "q", "-0", "x", "1/0", "1/00", "-3/000", "1/02", "3/1"])
    what = rng.randrange(4)
    if what == 0 and at < len(words):
        del words[at]
    elif what == 1 and at < len(words):
        words[at] = word
    elif what == 2:
        del words[at:]
    else:
        words.insert(at, word)
    return "\n".join(" ".join(line) for line in pieces)


def slow_values(text, entries):
    """Returns the numbers of all cells of a text without a fault, for a dict of Fractions for the entries."""
    values = {}
    for line in text.split("\n"):
        words = line.split(" ")
        if words[0] == "entry":
            values[words[1]] = entries[words[1]]
            continue
        known = list(values)
        total, sign, factor = Fraction(0), 1, Fraction(1)
        rest = words[3:]
        if rest[0] == "0" and (not known or len(rest) == 1 or rest[1] in KEYWORDS):
            rest = []
        before_term = True
        for word in rest:
            if before_term and word == "-":
                sign = -1
            elif before_term and value_of(word) is not None:
                factor = value_of(word)
            elif before_term:
                total += sign * factor * values[word]
                sign, factor, before_term = 1, Fraction(1), False
            elif word in ("+", "-"):
                sign, before_term = (1 if word == "+" else -1), True
            else:
                break
        values[words[1]] = total
    return list(values.values())


def seeded(seed):
    """Returns a source of the same choices in every run."""
    return random.Random(seed)
