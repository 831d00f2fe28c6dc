"""Whose fall makes whose: who never falls if others are held up, or if a stream is cut."""

from itertools import combinations

from paystreams.books import check_account
from paystreams.course import fall_of, later
from paystreams.ends import fallen, never_falls
from paystreams.rates import inflows, rates, short
from paystreams.ratios import greater, total


def end_with(book, helped):
    """Return the dict of the end rates if some accounts are held up."""
    return rates(book, helped)


def saved_by(book, helped):
    """Return the ascending list of the accounts that fall in the end, but not if some others are held up."""
    still = short(book, helped)
    return [name for name in fallen(book) if name not in still and name not in helped]


def help_needed(book, helped):
    """Return what some accounts are given a day in the end, in sum, if they are held up."""
    coming = inflows(book, helped)
    return total([greater(book.wish(name) - coming[name], 0) for name in book.names() if name in helped])


def causes(book, name):
    """Return the ascending list of the other accounts each of which, held up alone, saves an account."""
    if never_falls(book, name):
        return []
    return [other for other in _others(book, name) if name not in short(book, [other])]


def falls_alone(book, name):
    """Tell whether an account falls in the end even if all others are held up."""
    check_account(book, name)
    return name in short(book, _others(book, name))


def least_help(book, name):
    """Return the first of the shortest lists of others that save an account, and None if it falls alone."""
    if falls_alone(book, name):
        return None
    return _first_help(book, name, _others(book, name))


def roots(book):
    """Return the ascending list of the accounts that fall alone."""
    return [name for name in book.names() if falls_alone(book, name)]


def hurt_by_cut(book, start, end):
    """Return the ascending list of the accounts that fall in the end without a stream, but not with it."""
    without = fallen(book.without_stream(start, end))
    before = fallen(book)
    return [name for name in without if name not in before]


def saved_by_cut(book, start, end):
    """Return the ascending list of the accounts that fall in the end with a stream, but not without it."""
    without = fallen(book.without_stream(start, end))
    return [name for name in fallen(book) if name not in without]


def debtors(book, name):
    """Return the ascending list of those that pay an account and are short when it falls, None if it never does."""
    moment = fall_of(book, name)
    if moment is None:
        return None
    dry = short(later(book, moment))
    return [start for start, end, _ in book.streams() if end == name and start in dry]


def _first_help(book, name, others):
    """Return the first of the shortest lists of some others that save an account, and None if none does."""
    for many in range(len(others) + 1):
        for helped in combinations(others, many):
            if name not in short(book, helped):
                return list(helped)
    return None


def _others(book, name):
    return [other for other in book.names() if other != name]
