"""Systems of equations with as many unknown numbers as rows."""

from math import lcm

from paystreams.errors import BadSystem
from paystreams.ratios import Ratio, as_ratio, total


def solved(rows, right):
    """Return the solution of a system."""
    return [row[0] for row in _eliminated(rows, [[number] for number in right])]


def inverse(rows):
    """Return the rows that make the solution out of whatever stands on the right."""
    return _eliminated(rows, _unit_rows(len(rows)))


def applied(rows, numbers):
    """Return the sum of each row, its items multiplied by the numbers at the same places."""
    return [weighed(row, numbers) for row in rows]


def least_place(numbers):
    """Return the first place of a least number, and None for an empty list."""
    ratios = [as_ratio(number) for number in numbers]
    best = None
    for place, ratio in enumerate(ratios):
        if best is None or ratio < ratios[best]:
            best = place
    return best


def weighed(numbers, weights):
    """Return the sum of the numbers, each multiplied by the weight at the same place."""
    return total([as_ratio(number) * weight for number, weight in zip(numbers, weights)])


def _unit_rows(size):
    return [[1 if place == other else 0 for other in range(size)] for place in range(size)]


def _eliminated(rows, sides):
    """Return what becomes of the sides when the rows are turned into the unit rows.

    All is done in integers, which is far quicker than in Ratios: each step multiplies all other rows by the lead of
    the step, and the items that come out can then be divided by the lead of the step before, without a remainder, as
    all of them are determinants of parts of the system (the method of Bareiss). So all leads are equal in the end.
    """
    size = len(rows)
    table = [_whole_row([*row, *side]) for row, side in zip(rows, sides)]
    lead = 1
    for place in range(size):
        other = _lead_place(table, place)
        table[place], table[other] = table[other], table[place]
        table = _cleared(table, place, lead)
        lead = table[place][place]
    return [[Ratio(item, lead) for item in row[size:]] for row in table]


def _whole_row(row):
    """Return the row multiplied by the least number that makes all its items integers."""
    ratios = [as_ratio(number) for number in row]
    factor = 1
    for ratio in ratios:
        factor = lcm(factor, ratio.bottom)
    return [ratio.top * (factor // ratio.bottom) for ratio in ratios]


def _lead_place(table, place):
    """Return where, from this place on, a row has an item other than 0 in the column of the place."""
    for other in range(place, len(table)):
        if table[other][place] != 0:
            return other
    raise BadSystem()


def _cleared(table, place, before):
    """Return the table in which only the row of this place has an item other than 0 in its column."""
    chosen = table[place]
    return [row if at == place else _combined(row, chosen, place, before) for at, row in enumerate(table)]


def _combined(row, chosen, place, before):
    lead = chosen[place]
    times = row[place]
    return [(lead * item - times * taken) // before for item, taken in zip(row, chosen)]
