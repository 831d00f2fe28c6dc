"""Integers in decimal notation, however long they are.

Python refuses to convert integers of more than a few thousand digits at once; so they are cut into blocks.
"""

_WIDTH = 60
_BLOCK = 10 ** 60


def written(number):
    """Return the decimal notation of an integer."""
    if number < 0:
        return "-" + written(-number)
    parts = []
    while number >= _BLOCK:
        number, part = divmod(number, _BLOCK)
        parts.append(str(part).zfill(_WIDTH))
    parts.append(str(number))
    return "".join(reversed(parts))


def read_digits(text):
    """Return the integer that a string of digits stands for, perhaps behind a minus sign, and None for another string.

    Needless zeros are let through: the caller compares with what `written` makes of the integer.
    """
    digits = text.removeprefix("-")
    # There are digits that are not ASCII, and int would take them.
    if not (digits.isascii() and digits.isdigit()):
        return None
    missing = -len(digits) % _WIDTH
    padded = digits.zfill(len(digits) + missing)
    number = 0
    for start in range(0, len(padded), _WIDTH):
        number = number * _BLOCK + int(padded[start:start + _WIDTH])
    return number if digits == text else -number
