"""Exact quotients of integers."""

from math import gcd

from paystreams.digits import read_digits, written
from paystreams.errors import BadNumber, BadText, ByZero


class Ratio:
    """The quotient of two integers; it never changes."""

    def __init__(self, top, bottom=1):
        if bottom == 0:
            raise ByZero()
        shared = gcd(top, bottom)
        if bottom < 0:
            shared = -shared
        self._top = top // shared
        self._bottom = bottom // shared

    @classmethod
    def read(cls, text):
        """Return the Ratio with a text."""
        head, slash, tail = text.partition("/")
        top = read_digits(head)
        bottom = read_digits(tail) if slash else 1
        if top is None or bottom is None or bottom == 0:
            raise BadText()
        ratio = cls(top, bottom)
        # A Ratio has just one text, so this bars quotients that are not in lowest terms, -0, 07 and 3/1.
        if ratio.text() != text:
            raise BadText()
        return ratio

    @property
    def top(self):
        """The upper integer in lowest terms."""
        return self._top

    @property
    def bottom(self):
        """The lower integer in lowest terms, above 0."""
        return self._bottom

    def __add__(self, other):
        number = as_ratio(other)
        return Ratio(self._top * number.bottom + number.top * self._bottom, self._bottom * number.bottom)

    def __sub__(self, other):
        number = as_ratio(other)
        return Ratio(self._top * number.bottom - number.top * self._bottom, self._bottom * number.bottom)

    def __mul__(self, other):
        number = as_ratio(other)
        return Ratio(self._top * number.top, self._bottom * number.bottom)

    def __neg__(self):
        return Ratio(-self._top, self._bottom)

    def __eq__(self, other):
        if isinstance(other, Ratio):
            return self._top == other.top and self._bottom == other.bottom
        return is_whole(other) and self._bottom == 1 and self._top == other

    def __lt__(self, other):
        number = as_ratio(other)
        return self._top * number.bottom < number.top * self._bottom

    def __le__(self, other):
        number = as_ratio(other)
        return self._top * number.bottom <= number.top * self._bottom

    def over(self, number):
        """Return the quotient by a number."""
        divisor = as_ratio(number)
        return Ratio(self._top * divisor.bottom, self._bottom * divisor.top)

    def text(self):
        """Return the decimal notation, such as -2/5 or 3."""
        if self._bottom == 1:
            return written(self._top)
        return f"{written(self._top)}/{written(self._bottom)}"


def is_whole(value):
    """Tell whether a value is an integer, which True and False are not."""
    return isinstance(value, int) and not isinstance(value, bool)


def is_number(value):
    """Tell whether a value is an integer or a Ratio."""
    return isinstance(value, Ratio) or is_whole(value)


def is_unsigned(value):
    """Tell whether a value is a number that is at least 0."""
    return is_number(value) and Ratio(0) <= value


def is_positive(value):
    """Tell whether a value is a number above 0."""
    return is_number(value) and Ratio(0) < value


def as_ratio(given):
    """Return the Ratio that is equal to a number."""
    if isinstance(given, Ratio):
        return given
    if not is_whole(given):
        raise BadNumber(given)
    return Ratio(given)


def lesser(one, other):
    """Return the less one of two numbers, as a Ratio."""
    first = as_ratio(one)
    second = as_ratio(other)
    return first if first <= second else second


def greater(one, other):
    """Return the greater one of two numbers, as a Ratio."""
    first = as_ratio(one)
    second = as_ratio(other)
    return second if first <= second else first


def total(numbers):
    """Return the sum of a list of numbers."""
    result = Ratio(0)
    for number in numbers:
        result = result + number
    return result


def raised(number, exponent):
    """Return the product of so many equal numbers."""
    ratio = as_ratio(number)
    return Ratio(_power(ratio.top, exponent), _power(ratio.bottom, exponent))


def _power(base, exponent):
    # By squares, for an exponent may be long where the base is 0, 1 or -1.
    result = 1
    while exponent > 0:
        if exponent & 1:
            result = result * base
        exponent = exponent // 2
        if exponent > 0:
            base = base * base
    return result
