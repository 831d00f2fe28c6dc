"""Values that several tests need, and plain models of what the program does, in Python's own Fractions."""

import random
import unittest
from fractions import Fraction
from itertools import combinations

from paystreams.books import Book
from paystreams.course import falls
from paystreams.errors import NoAccount
from paystreams.ratios import Ratio

BIG = 10 ** 60 - 1
HUGE = 10 ** 59 + 7
FAR = 10 ** 18
NO_UNSIGNED = [
    None, True, False, -1, -BIG, Ratio(-1, 2), Ratio(-1, BIG), "", "1", "1/2", [], [1], (), (1,), {}, {1: 1}, 0.5, 1.0,
]
NO_POSITIVE = [*NO_UNSIGNED, 0, Ratio(0)]
NAMES = ["g", "ann", "bob", "mill", "inn", "aa", "abcdefgh"]


def values_of_every_kind():
    """Values of all kinds that an error may name, as point 7 lists them."""
    return [
        None, True, False, 0, 1, -5, BIG, Ratio(0), Ratio(-2, 5), "", "1/2", "mill", [], [1, "a"], (), (1, None),
        {}, {"mill": (6, Ratio(1, 2))}, [[(True, {"x": [Ratio(3)]})]],
    ]


def numbers():
    """Integers and Ratios: small ones, opposite ones, equal ones of both kinds, and ones of 60 digits."""
    return [
        0, 1, -1, 2, -7, BIG, -BIG, Ratio(0, -3), Ratio(1), Ratio(-1, 2), Ratio(3, 6), Ratio(7, -3), Ratio(BIG, 7),
        Ratio(-HUGE, BIG), Ratio(1, BIG),
    ]


def fraction(number):
    """The same number as Python's own Fraction, which the tests trust."""
    return Fraction(number.top, number.bottom) if isinstance(number, Ratio) else Fraction(number)


def dice(seed):
    """Random numbers that are the same in each run."""
    return random.Random(seed)


def some_ratio(source, most):
    """A random Ratio whose integers are at most so great."""
    return Ratio(source.randint(-most, most), source.choice([-1, 1]) * source.randint(1, most))


def texts(ratios):
    return [ratio.text() for ratio in ratios]


def some_part(source, most, least=0):
    """A random number that is at least 0, or above 0: an integer, or a Ratio with a small bottom."""
    top = source.randint(least, most)
    return source.choice([top, Ratio(top), Ratio(top, source.randint(1, 3))])


def some_book(source, size, most=4, streams_of_ten=5):
    """A random book whose accounts stand in no order, with so many of ten possible streams."""
    names = source.sample(NAMES, size)
    accounts = {name: (some_part(source, most), source.choice([0, some_part(source, most)])) for name in names}
    places = [(start, end) for start in names for end in ["", *names] if start != end]
    places = [place for place in places if source.randint(1, 10) <= streams_of_ten]
    source.shuffle(places)
    return Book(accounts, [(start, end, some_part(source, most, 1)) for start, end in places])


def great_book(source, whole):
    """A random book of 7 accounts and 36 streams, with numbers of 60 digits, in which all run dry sooner or later."""
    def great():
        top = source.randint(HUGE, BIG)
        return top if whole else Ratio(top, source.randint(HUGE, BIG))

    def little():
        top = source.randint(1, BIG // 1000)
        return top if whole else Ratio(top, source.randint(HUGE, BIG))

    places = source.sample([(start, end) for start in NAMES for end in ["", *NAMES] if start != end], 36)
    return Book({name: (great(), little()) for name in NAMES}, [(start, end, great()) for start, end in places])


def ring_book(source, size, most=2):
    """A random book in which money hardly leaves: most streams lead to other accounts, and most inlets are 0."""
    book = some_book(source, size, most, 6)
    for name in book.names():
        if book.wish(name) == 0 or source.random() < 0.8:
            book = book.with_stream(name, source.choice([other for other in book.names() if other != name]), 1)
        book = book.with_inlet(name, source.choice([0, 0, 0, some_part(source, most)]))
    for start, end, _ in book.streams():
        if end == "" and source.random() < 0.8:
            book = book.without_stream(start, end)
    return book


def any_book(source, least=1, most=6):
    """A random book of one of the kinds above, of so many accounts."""
    size = source.randint(least, most)
    if size > 1 and source.random() < 0.4:
        return ring_book(source, size, source.choice([1, 2, 5]))
    return some_book(source, size, source.choice([1, 2, 4, 10]), source.choice([3, 5, 8]))


def redrawn(source, book, most=9):
    """The book with other amounts."""
    accounts = {name: (source.choice([0, some_part(source, most)]), book.inlet(name)) for name in book.names()}
    return Book(accounts, book.streams())


def amounts_of(book):
    return {name: book.amount(name) for name in book.names()}


def moments_of(book, source):
    """Moments at which something happens, between them, behind them and far away, ascending."""
    ends = [Fraction(0), *[plain(moment) for moment, _ in falls(book)]]
    nexts = [*ends[1:], ends[-1] + 9]
    between = [one + (other - one) * Fraction(source.randint(1, 3), 4) for one, other in zip(ends, nexts)]
    return [ratio(moment) for moment in sorted({*ends, *between, ends[-1] + FAR})]


def ratio(number):
    """The same number as a Ratio."""
    return Ratio(number.numerator, number.denominator)


def shown(found):
    """The same lists, tuples and dicts with texts in the place of Ratios."""
    if isinstance(found, dict):
        return {name: shown(item) for name, item in found.items()}
    if isinstance(found, (list, tuple)):
        return type(found)(shown(item) for item in found)
    return found.text() if isinstance(found, Ratio) else found


def plain(value):
    """The same value with Fractions in the place of Ratios."""
    if isinstance(value, dict):
        return {key: plain(item) for key, item in value.items()}
    if isinstance(value, (list, tuple)):
        return type(value)(plain(item) for item in value)
    return fraction(value) if isinstance(value, Ratio) else value


def rich_of(book):
    return [name for name in book.names() if 0 < fraction(book.amount(name))]


def model_inflows(book, table):
    """The inflows at the rates of a table, as point 3 tells them."""
    found = {name: fraction(book.inlet(name)) for name in book.names()}
    for start, end, wish in book.streams():
        if end != "":
            found[end] += fraction(table[start]) * fraction(wish) / fraction(book.wish(start))
    return found


def model_fits(book, table, rich):
    """Whether a table fits, as point 3 tells it."""
    coming = model_inflows(book, table)
    wishes = {name: fraction(book.wish(name)) for name in book.names()}
    return all(table[name] == (wishes[name] if name in rich else min(wishes[name], coming[name])) for name in wishes)


def model_rates(book, rich):
    """The greatest of all tables that fit, found by trying all lots of short accounts."""
    poor = [name for name in book.names() if name not in rich]
    tables = []
    for many in range(len(poor) + 1):
        for dry in combinations(poor, many):
            table = _model_table(book, dry)
            if table is not None and model_fits(book, table, rich):
                tables.append(table)
    best = max(tables, key=lambda table: sum(table.values()))
    assert all(table[name] <= best[name] for table in tables for name in table)
    return best


def _model_table(book, dry):
    """The table in which these accounts pay their inflow and the others their wish; None if there is not just one."""
    table = {name: Fraction(0) if name in dry else fraction(book.wish(name)) for name in book.names()}
    if any(book.wish(name) == 0 for name in dry):
        return None
    rows = []
    for end in dry:
        row = [Fraction(start == end) for start in dry] + [model_inflows(book, table)[end]]
        for start, to, wish in book.streams():
            if start in dry and to == end:
                row[dry.index(start)] -= fraction(wish) / fraction(book.wish(start))
        rows.append(row)
    for place in range(len(rows)):
        lead = next((row for row in rows[place:] if row[place] != 0), None)
        if lead is None:
            return None
        rows.remove(lead)
        rows = [[item - row[place] / lead[place] * taken for item, taken in zip(row, lead)] for row in rows]
        rows.insert(place, [item / lead[place] for item in lead])
    return {**table, **{name: row[-1] for name, row in zip(dry, rows)}}


def model_course(book):
    """The stretches of time without a change, as tuples (moment, amounts, rates, slopes), as point 4 tells them."""
    moment = Fraction(0)
    amounts = {name: fraction(book.amount(name)) for name in book.names()}
    found = []
    while True:
        table = model_rates(book, [name for name in amounts if amounts[name] > 0])
        coming = model_inflows(book, table)
        slopes = {name: coming[name] - table[name] for name in amounts}
        found.append((moment, amounts, table, slopes))
        times = [-amounts[name] / slopes[name] for name in amounts if slopes[name] < 0]
        if not times:
            return found
        moment = moment + min(times)
        amounts = {name: amounts[name] + slopes[name] * min(times) for name in amounts}


def no_accounts(book):
    """Values of every kind that are no name of an account of the book, names nearly like one among them."""
    near = [other for name in book.names()[:1] for other in (name + "x", name.upper(), " " + name, [name], (name,))]
    found = [value for value in values_of_every_kind() if value not in book.names()]
    return [*found, *near, "nobody", Ratio(1), b"mill", {"mill": 1}]


class GivenCase(unittest.TestCase):
    def assert_raises(self, error_class, value, call, *given):
        """The very value is what the error tells."""
        with self.assertRaises(error_class) as caught:
            call(*given)
        self.assertIs(caught.exception.given, value)

    def assert_no_account(self, call, book, *rest):
        """The function raises NoAccount for its second argument, before it looks at the others."""
        for value in no_accounts(book):
            with self.subTest(call=call, value=value):
                self.assert_raises(NoAccount, value, call, book, value, *rest)

    def assert_no_account_in_a_list(self, call, book, *rest):
        """The function raises NoAccount for the first wrong item of its second argument."""
        for value in no_accounts(book):
            with self.subTest(call=call, value=value):
                self.assert_raises(NoAccount, value, call, book, [value, "nobody"], *rest)
                self.assert_raises(NoAccount, value, call, book, (*book.names(), value, None), *rest)
