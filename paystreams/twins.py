"""Two books: whether they act alike, and books in which accounts are joined or taken out."""

from itertools import combinations

from paystreams.books import Book, accounts_of, check_account, with_amounts
from paystreams.course import stretches
from paystreams.errors import NoAccount, UnlikeBooks
from paystreams.rates import Flows
from paystreams.ratios import Ratio, total
from paystreams.systems import least_place


def act_alike(one, other):
    """Tell whether two books act alike."""
    return _parting_names(one, other) is None


def parting(one, other):
    """Return amounts and days by which two books part, and None if they act alike."""
    rich = _parting_names(one, other)
    if rich is None:
        return None
    # With these amounts money flows in both books as it does for these rich accounts, until one of them has no more.
    amounts = {name: Ratio(1 if name in rich else 0) for name in one.names()}
    return amounts, _days_without_a_change([one, other], amounts)


def joined(book, first, second):
    """Return the book in which two accounts have become one, with the name of the first."""
    check_account(book, first)
    if first == second:
        raise NoAccount(second)
    check_account(book, second)
    accounts = accounts_of(book)
    amount, inlet = accounts.pop(second)
    accounts[first] = (book.amount(first) + amount, book.inlet(first) + inlet)
    names = {name: name for name in [*accounts, ""]}
    names[second] = first
    return _gathered(accounts, [(names[start], names[end], wish) for start, end, wish in book.streams()])


def greatest_inflow(book, name):
    """Return the inlet of an account plus the wishes of all streams that lead to it."""
    return book.inlet(name) + total([wish for _, end, wish in book.streams() if end == name])


def stays_dry(book, name):
    """Tell whether an account has no money and can never get more than its wish."""
    return book.amount(name) == 0 and greatest_inflow(book, name) <= book.wish(name)


def taken_out(book, name):
    """Return the book without an account that stays dry, in which money flows past it; None for another account."""
    if not stays_dry(book, name):
        return None
    parts = {end: wish.over(book.wish(name)) for start, end, wish in book.streams() if start == name}
    accounts = {}
    for other in book.names():
        if other != name:
            inlet = book.inlet(other) + book.inlet(name) * parts.get(other, 0)
            accounts[other] = (book.amount(other), inlet)
    leading = []
    for start, end, wish in book.streams():
        if end == name:
            leading.extend([(start, final, wish * part) for final, part in parts.items()])
        elif start != name:
            leading.append((start, end, wish))
    return _gathered(accounts, leading)


def thinned(book):
    """Return the book without accounts that stay dry, of which the first one is taken out each time."""
    dry = [name for name in book.names() if stays_dry(book, name)]
    while len(dry) > 0:
        book = taken_out(book, dry[0])
        dry = [name for name in book.names() if stays_dry(book, name)]
    return book


def _parting_names(one, other):
    """Return rich accounts for which some account gets more a day in one of the books, None if there are none."""
    names = one.names()
    if names != other.names():
        raise UnlikeBooks()
    first, second = Flows(one), Flows(other)
    for many in range(len(names) + 1):
        for rich in combinations(names, many):
            if first.at(rich).slopes != second.at(rich).slopes:
                return rich
    return None


def _days_without_a_change(books, amounts):
    """Return how long, with these amounts at first, nobody runs out of money in some books; 1 if nobody ever does."""
    firsts = [stretches(with_amounts(book, amounts), 0)[0].length() for book in books]
    lengths = [length for length in firsts if length is not None]
    return Ratio(1) if len(lengths) == 0 else lengths[least_place(lengths)]


def _gathered(accounts, streams):
    """Return the book with these streams: those with the same start and end put together, none to its own start."""
    wishes = {}
    for start, end, wish in streams:
        if start != end:
            wishes[start, end] = wish + wishes.get((start, end), 0)
    return Book(accounts, [(start, end, wish) for (start, end), wish in wishes.items()])
