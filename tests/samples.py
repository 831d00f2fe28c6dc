"""Values that several tests need."""

import random
from fractions import Fraction

from paystreams.ratios import Ratio

BIG = 10 ** 60 - 1
HUGE = 10 ** 59 + 7


def values_of_every_kind():
    """Values of all kinds that an error may name, as point 7 lists them."""
    return [
        None, True, False, 0, 1, -5, BIG, Ratio(0), Ratio(-2, 5), "", "1/2", "mill", [], [1, "a"], (), (1, None),
        {}, {"mill": (6, Ratio(1, 2))}, [[(True, {"x": [Ratio(3)]})]],
    ]


def numbers():
    """Integers and Ratios: small ones, opposite ones, equal ones of both kinds, and ones of 60 digits."""
    return [
        0, 1, -1, 2, -7, BIG, -BIG, Ratio(0, -3), Ratio(1), Ratio(-1, 2), Ratio(3, 6), Ratio(7, -3), Ratio(BIG, 7),
        Ratio(-HUGE, BIG), Ratio(1, BIG),
    ]


def fraction(number):
    """The same number as Python's own Fraction, which the tests trust."""
    return Fraction(number.top, number.bottom) if isinstance(number, Ratio) else Fraction(number)


def dice(seed):
    """Random numbers that are the same in each run."""
    return random.Random(seed)


def some_ratio(source, most):
    """A random Ratio whose integers are at most so great."""
    return Ratio(source.randint(-most, most), source.choice([-1, 1]) * source.randint(1, most))


def texts(ratios):
    return [ratio.text() for ratio in ratios]
