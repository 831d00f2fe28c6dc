"""What becomes of a book in the end, whatever the amounts are, and papers that show it."""

from paystreams.books import check_account
from paystreams.errors import BadTable
from paystreams.rates import dry_rows, feeds, flow_for, is_table, rates, short, stream_rates
from paystreams.ratios import Ratio, as_ratio, is_unsigned, total
from paystreams.systems import solved


def end_rates(book):
    """Return the dict of the end rates."""
    return rates(book, [])


def end_slopes(book):
    """Return the dict of what each account gets more a day in the end."""
    return flow_for(book, []).slopes


def fallen(book):
    """Return the ascending list of the accounts that fall in the end."""
    return short(book, [])


def never_falls(book, name):
    """Tell whether an account never falls."""
    check_account(book, name)
    return name not in fallen(book)


def leaving(book):
    """Return what flows out of the book a day in the end."""
    return total([rate for _, end, rate in stream_rates(book, []) if end == ""])


def feeding_paper(book, name):
    """Return a feeding paper for an account that never falls, and None for another one."""
    return end_rates(book) if never_falls(book, name) else None


def shows_holding(book, name, paper):
    """Tell whether any value is a feeding paper for an account."""
    check_account(book, name)
    return is_table(book, paper) and feeds(book, paper) and book.wish(name) == paper[name]


def weights_paper(book, name):
    """Return a weights paper for an account that falls in the end, and None for another one.

    Its keys are all accounts that fall, and each weight is how much more the account gets a day in the end for one
    unit more a day that comes in at the key. So the gain is just what the account gets in the end, too little.
    """
    if never_falls(book, name):
        return None
    keys = fallen(book)
    columns = dry_rows(book, keys)
    rows = [[column[place] for column in columns] for place in range(len(keys))]
    weights = solved(rows, [book.wish(key) if key == name else 0 for key in keys])
    return {key: weight for key, weight in zip(keys, weights)}


def shows_falling(book, name, paper):
    """Tell whether any value is a weights paper for an account."""
    check_account(book, name)
    if not _has_weights(book, paper) or name not in paper:
        return False
    least = {key: Ratio(1 if key == name else 0) for key in paper}
    return all([least[key] <= _left_of(book, paper, key) for key in paper]) and gain_of(book, paper) < book.wish(name)


def gain_of(book, paper):
    """Return the gain of a weights paper."""
    return total([_coming_from_outside(book, paper, key) * paper[key] for key in paper])


def worth_of(book, paper):
    """Return the worth of a weights paper."""
    return total([book.amount(key) * paper[key] for key in paper])


def latest_fall(book, name, paper):
    """Return the moment by which an account has fallen, as a weights paper for it shows."""
    if not shows_falling(book, name, paper):
        raise BadTable()
    return worth_of(book, paper).over(book.wish(name) - gain_of(book, paper))


def _has_weights(book, paper):
    """Tell whether any value is a dict of weights for some accounts."""
    if not isinstance(paper, dict):
        return False
    names = book.names()
    return all([key in names and is_unsigned(weight) for key, weight in paper.items()])


def _left_of(book, paper, key):
    """Return what is left of the weight of a key, less those of the keys that it pays, by the parts paid to them."""
    paid = [wish * paper[end] for start, end, wish in book.streams() if start == key and end in paper]
    weight = as_ratio(paper[key])
    # An account without streams has the wish 0, and pays nobody.
    return weight if len(paid) == 0 else weight - total(paid).over(book.wish(key))


def _coming_from_outside(book, paper, key):
    """Return how much can come in at a key from outside of the keys."""
    wishes = [wish for start, end, wish in book.streams() if end == key and start not in paper]
    return book.inlet(key) + total(wishes)
