"""Exact numbers: a whole number, or a pair (top, bottom) in lowest terms with a bottom of at least 2."""

from math import gcd, lcm

from fineststep.errors import BadText, ZeroBottom

MOST_DIGITS = 400


def ratio(top, bottom):
    """Returns the number top / bottom."""
    if bottom == 0:
        raise ZeroBottom("a number would have the bottom 0")
    common = gcd(top, bottom)
    if bottom < 0:
        common = -common
    if common == bottom:
        return top // common
    return (top // common, bottom // common)


def is_whole(number):
    """Returns True for a whole number, False for a pair."""
    return not isinstance(number, tuple)


def top_of(number):
    """Returns the top of the number."""
    return number if is_whole(number) else number[0]


def bottom_of(number):
    """Returns the bottom of the number."""
    return 1 if is_whole(number) else number[1]


def plus(x, y):
    """Returns the sum."""
    bottom = bottom_of(y)
    return ratio(top_of(x) * bottom + top_of(y) * bottom_of(x), bottom_of(x) * bottom)


def minus(x, y):
    """Returns the difference."""
    bottom = bottom_of(y)
    return ratio(top_of(x) * bottom - top_of(y) * bottom_of(x), bottom_of(x) * bottom)


def times(x, y):
    """Returns the product."""
    return ratio(top_of(x) * top_of(y), bottom_of(x) * bottom_of(y))


def over(x, y):
    """Returns the quotient."""
    return ratio(top_of(x) * bottom_of(y), bottom_of(x) * top_of(y))


def less(x, y):
    """Returns True if x is below y, otherwise False."""
    return top_of(x) * bottom_of(y) < top_of(y) * bottom_of(x)


def size_of(number):
    """Returns the number without its sign."""
    return minus(0, number) if less(number, 0) else number


def floor_of(number):
    """Returns the greatest whole number that is not above the number."""
    return top_of(number) // bottom_of(number)


def ceiling_of(number):
    """Returns the least whole number that is not below the number."""
    return -(-top_of(number) // bottom_of(number))


def nearest(number):
    """Returns the nearest whole number; halves go up."""
    return floor_of(plus(number, (1, 2)))


def common_bottom(numbers):
    """Returns the least common multiple of the bottoms."""
    common = 1
    for number in numbers:
        common = lcm(common, bottom_of(number))
    return common


def least_of(numbers):
    """Returns the least number, None if there is none."""
    least = None
    for number in numbers:
        if least is None or less(number, least):
            least = number
    return least


def greatest_of(numbers):
    """Returns the greatest number, None if there is none."""
    greatest = None
    for number in numbers:
        if greatest is None or less(greatest, number):
            greatest = number
    return greatest


def number_text(number):
    """Returns the written form of the number."""
    if is_whole(number):
        return str(number)
    top, bottom = number
    return f"{top}/{bottom}"


def read_number(text):
    """Returns the number whose written form is the text."""
    unsigned = text[1:] if text.startswith("-") else text
    top, slash, bottom = unsigned.partition("/")
    if not slash:
        bottom = "1"
    if not is_numeral(top) or not is_numeral(bottom) or bottom == "0":
        raise BadText("the text is not a number")
    number = ratio(int(top), int(bottom))
    if text.startswith("-"):
        number = minus(0, number)
    # Each number has one written form only, so this finds 2/4, 3/1 and -0.
    if number_text(number) != text:
        raise BadText("the text is not the written form of a number")
    return number


def is_numeral(text):
    """Returns True for a run of 1 to 400 digits without a leading zero, otherwise False."""
    if not text.isdigit() or len(text) > MOST_DIGITS:
        return False
    # A second form of 0 as a bottom would not be seen to be 0 before it is divided by.
    return text == "0" or not text.startswith("0")
