"""What becomes of a book in the course of time, as long as nobody changes anything."""

from paystreams.books import Book, check_account
from paystreams.errors import BadDays
from paystreams.rates import stream_rates
from paystreams.ratios import Ratio, as_ratio, is_unsigned, total
from paystreams.systems import least_place, weighed


class Stretch:
    """A stretch of time in which no rate changes: from its start until the start of the next one, or for ever."""

    def __init__(self, book, start, amounts):
        """Set what holds from the start on, at which the accounts have these amounts."""
        rich = [name for name in amounts if Ratio(0) < amounts[name]]
        self.start = start
        self.amounts = amounts
        self.flows = stream_rates(book, rich)
        self.rates = {name: total([rate for begin, _, rate in self.flows if begin == name]) for name in amounts}
        coming = {name: total([rate for _, end, rate in self.flows if end == name]) for name in amounts}
        self.slopes = {name: book.inlet(name) + coming[name] - self.rates[name] for name in amounts}
        self.dry = [name for name in amounts if self.rates[name] < book.wish(name)]

    def amounts_after(self, days):
        """Return the dict of the amounts so many days after the start."""
        return {name: self.amounts[name] + self.slopes[name] * days for name in self.amounts}

    def length(self):
        """Return after how many days somebody has no money left, and None if this never happens."""
        losing = [name for name in self.amounts if self.slopes[name] < 0]
        times = [self.amounts[name].over(-self.slopes[name]) for name in losing]
        place = least_place(times)
        return None if place is None else times[place]


def falls(book):
    """Return the list of the tuples (moment, names) of all moments at which accounts fall."""
    found = []
    before = []
    for stretch in _stretches(book):
        names = [name for name in stretch.dry if name not in before]
        if len(names) > 0:
            found.append((stretch.start, names))
        before = stretch.dry
    return found


def fall_of(book, name):
    """Return the moment at which an account falls, and None if it never does."""
    check_account(book, name)
    for stretch in _stretches(book):
        if name in stretch.dry:
            return stretch.start
    return None


def later(book, days):
    """Return the book so many days later."""
    stretch = _stretches_until(book, days)[-1]
    amounts = stretch.amounts_after(as_ratio(days) - stretch.start)
    return Book({name: (amounts[name], book.inlet(name)) for name in amounts}, book.streams())


def rates_at(book, days):
    """Return the dict of the rates from a moment on."""
    return _stretches_until(book, days)[-1].rates


def paid(book, days):
    """Return the list of the tuples (start, end, amount) of all streams, with what has flowed in them by a moment."""
    stretches = _stretches_until(book, days)
    until = [*[stretch.start for stretch in stretches[1:]], as_ratio(days)]
    spans = [moment - stretch.start for stretch, moment in zip(stretches, until)]
    found = []
    for place, (start, end, _) in enumerate(book.streams()):
        found.append((start, end, weighed([stretch.flows[place][2] for stretch in stretches], spans)))
    return found


def pieces(book, name):
    """Return the list of the tuples (start, amount, slope) that tell the amount of an account at all moments."""
    check_account(book, name)
    found = []
    for stretch in _stretches(book):
        if len(found) == 0 or found[-1][2] != stretch.slopes[name]:
            found.append((stretch.start, stretch.amounts[name], stretch.slopes[name]))
    return found


def settled(book):
    """Return the last moment at which an account falls, and 0 if there is none."""
    return _stretches(book)[-1].start


def _stretches(book):
    """Return the list of all stretches of time, ascending.

    A new one begins just when a rich account has no money left: then it falls, and others may fall with it. An account
    that gets its first money changes no rate, for it has paid its wish before.
    """
    found = [Stretch(book, Ratio(0), {name: book.amount(name) for name in book.names()})]
    while (days := found[-1].length()) is not None:
        found.append(Stretch(book, found[-1].start + days, found[-1].amounts_after(days)))
    return found


def _stretches_until(book, days):
    """Return the list of the stretches that have begun by a moment."""
    if not is_unsigned(days):
        raise BadDays(days)
    return [stretch for stretch in _stretches(book) if stretch.start <= days]
