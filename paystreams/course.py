"""What becomes of a book in the course of time, as long as nobody changes anything."""

from paystreams.books import check_account, with_amounts
from paystreams.errors import BadDays
from paystreams.rates import Flows
from paystreams.ratios import Ratio, as_ratio, is_unsigned
from paystreams.systems import least_place, weighed


class Stretch:
    """A stretch of time in which no rate changes: from its start until the start of the next one, or for ever."""

    def __init__(self, flows, start, amounts, held):
        """Set what holds from the start on, at which the accounts have these amounts.

        Those that are held up pay their wish, whatever they have; their amounts may be below 0.
        """
        self.start = start
        self.amounts = amounts
        self.flow = flows.at([name for name in amounts if name in held or Ratio(0) < amounts[name]])
        self.emptying = [name for name in self.flow.losing if name not in held]

    def amounts_after(self, days):
        """Return the dict of the amounts so many days after the start."""
        return {name: self.amounts[name] + self.flow.slopes[name] * days for name in self.amounts}

    def length(self):
        """Return after how many days somebody has no money left, and None if this never happens."""
        times = [self.amounts[name].over(-self.flow.slopes[name]) for name in self.emptying]
        place = least_place(times)
        return None if place is None else times[place]


def falls(book):
    """Return the list of the tuples (moment, names) of all moments at which accounts fall."""
    found = []
    before = []
    for stretch in stretches(book):
        names = [name for name in stretch.flow.dry if name not in before]
        if len(names) > 0:
            found.append((stretch.start, names))
        before = stretch.flow.dry
    return found


def fall_of(book, name):
    """Return the moment at which an account falls, and None if it never does."""
    check_account(book, name)
    return fall_moments(book).get(name)


def later(book, days):
    """Return the book so many days later."""
    check_days(days)
    return with_amounts(book, amounts_at(stretches(book, days), days))


def rates_at(book, days):
    """Return the dict of the rates from a moment on."""
    check_days(days)
    return _stretch_at(stretches(book, days), days).flow.rates


def paid(book, days):
    """Return the list of the tuples (start, end, amount) of all streams, with what has flowed in them by a moment."""
    check_days(days)
    return flowed_by(stretches(book, days), days)


def pieces(book, name):
    """Return the list of the tuples (start, amount, slope) that tell the amount of an account at all moments."""
    check_account(book, name)
    found = []
    for stretch in stretches(book):
        slope = stretch.flow.slopes[name]
        if len(found) == 0 or found[-1][2] != slope:
            found.append((stretch.start, stretch.amounts[name], slope))
    return found


def settled(book):
    """Return the last moment at which an account falls, and 0 if there is none."""
    return stretches(book)[-1].start


def check_days(days):
    """Raise BadDays unless any value is a number that is at least 0."""
    if not is_unsigned(days):
        raise BadDays(days)


def fall_moments(book):
    """Return the dict of the moments of their falls, for all accounts that fall."""
    return {name: moment for moment, names in falls(book) for name in names}


def stretches(book, until=None, held=()):
    """Return the list of all stretches of time that begin by a moment, or ever, while some accounts are held up.

    A new one begins just when a rich account has no money left: then it falls, and others may fall with it. An account
    that gets its first money changes no rate, for it has paid its wish before.
    """
    flows = Flows(book)
    found = [Stretch(flows, Ratio(0), {name: book.amount(name) for name in book.names()}, held)]
    while True:
        last = found[-1]
        days = last.length()
        if days is None or (until is not None and as_ratio(until) < last.start + days):
            return found
        found.append(Stretch(flows, last.start + days, last.amounts_after(days), held))


def amounts_at(found, days):
    """Return the dict of the amounts at a moment of these stretches."""
    stretch = _stretch_at(found, days)
    return stretch.amounts_after(as_ratio(days) - stretch.start)


def flowed_by(found, days):
    """Return the tuples (start, end, amount) of what has flowed in all streams by the end of these stretches."""
    until = [*[stretch.start for stretch in found[1:]], as_ratio(days)]
    spans = [moment - stretch.start for stretch, moment in zip(found, until)]
    result = []
    for place, (start, end, _) in enumerate(found[0].flow.flows):
        result.append((start, end, weighed([stretch.flow.flows[place][2] for stretch in found], spans)))
    return result


def _stretch_at(found, days):
    """Return the last of these stretches that has begun by a moment."""
    return [stretch for stretch in found if stretch.start <= days][-1]
