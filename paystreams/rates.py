"""At which rates money flows in a book, for given rich accounts."""

from paystreams.books import check_account
from paystreams.errors import BadTable
from paystreams.ratios import Ratio, as_ratio, is_unsigned, lesser, total
from paystreams.systems import solved


class Flow:
    """How money flows if some dry accounts pay what comes in, and all others their wishes; it never changes."""

    def __init__(self, book, dry):
        names = book.names()
        parts = _parts_with(book, dry)
        coming = _inflows_by(book, parts)
        self.dry = dry
        self.flows = _flows_by(book, parts)
        self.rates = {name: book.wish(name) * parts[name] for name in names}
        self.inflows = coming
        self.slopes = {name: coming[name] - self.rates[name] for name in names}
        self.losing = [name for name in names if self.slopes[name] < 0]


class Flows:
    """How money flows in a book for all lots of rich accounts; for each lot of dry ones it is worked out once."""

    def __init__(self, book):
        self._book = book
        self._known = {}

    def at(self, rich):
        """Return the Flow at the rates for some rich accounts.

        At first all pay their wishes. Those that are not rich and get less than their wish become dry: from then on
        they pay just what comes in. So nobody ever pays less here than at the rates, and who becomes dry is short at
        the rates too. When nobody becomes dry any more, the table fits, and so it is that of the rates.
        """
        flow = self._with_dry([])
        while True:
            more = [name for name in flow.losing if name not in rich]
            if len(more) == 0:
                return flow
            flow = self._with_dry([name for name in self._book.names() if name in flow.dry or name in more])

    def _with_dry(self, dry):
        key = tuple(dry)
        if key not in self._known:
            self._known[key] = Flow(self._book, dry)
        return self._known[key]


def rates(book, rich=None):
    """Return the dict of the rates."""
    return flow_for(book, rich).rates


def inflows(book, rich=None):
    """Return the dict of the inflows at the rates."""
    return flow_for(book, rich).inflows


def short(book, rich=None):
    """Return the ascending list of the accounts that are short."""
    return flow_for(book, rich).dry


def stream_rates(book, rich=None):
    """Return the list of the tuples (start, end, rate) of all streams at the rates."""
    return flow_for(book, rich).flows


def flow_for(book, rich):
    """Return the Flow at the rates for some rich accounts, or for those with an amount above 0."""
    return Flows(book).at(_rich_names(book, rich))


def is_table(book, table):
    """Tell whether any value is a table: a dict with a number from 0 to its wish for each account."""
    if not isinstance(table, dict) or len(table) != len(book):
        return False
    return all([name in table and _is_rate(table[name], book.wish(name)) for name in book.names()])


def fits(book, table, rich=None):
    """Tell whether a table fits: each rich account pays its wish, each other one what comes in, up to its wish."""
    paying = _rich_names(book, rich)
    coming = inflows_of(book, table)
    for name in book.names():
        wish = book.wish(name)
        due = wish if name in paying else lesser(wish, coming[name])
        if due != table[name]:
            return False
    return True


def inflows_of(book, table):
    """Return the dict of the inflows at the rates of a table."""
    if not is_table(book, table):
        raise BadTable()
    return _inflows_by(book, {name: _part_of(table[name], book.wish(name)) for name in book.names()})


def feeds(book, table):
    """Tell whether each account of a table pays at most its inflow."""
    coming = inflows_of(book, table)
    return all([as_ratio(table[name]) <= coming[name] for name in book.names()])


def dry_rows(book, dry):
    """Return a row for each dry account: for the part of each, what the one pays at it less what it gets at it."""
    losses = {(start, end): -wish for start, end, wish in book.streams()}
    for name in dry:
        losses[name, name] = book.wish(name)
    return [[losses.get((start, end), 0) for start in dry] for end in dry]


def _rich_names(book, rich):
    """Return the list of the names of the rich accounts."""
    if rich is None:
        return [name for name in book.names() if Ratio(0) < book.amount(name)]
    for name in rich:
        check_account(book, name)
    return rich


def _parts_with(book, dry):
    """Return the part of its wish that each account pays if the dry ones pay what comes in, the others their wishes.

    The system has just one solution: it would have none or many only if there were a ring of dry accounts that no
    money leaves. But where money goes round in a ring that nothing leaves, all of it could pay more until one account
    pays its wish; so not all accounts of such a ring are short at the rates.
    """
    parts = {name: Ratio(0 if name in dry else 1) for name in book.names()}
    coming = _inflows_by(book, parts)
    found = solved(dry_rows(book, dry), [coming[name] for name in dry])
    for name, part in zip(dry, found):
        parts[name] = part
    return parts


def _inflows_by(book, parts):
    """Return the dict of the inflows, by the part of its wish that each account pays."""
    flows = _flows_by(book, parts)
    return {name: book.inlet(name) + total([rate for _, end, rate in flows if end == name]) for name in parts}


def _flows_by(book, parts):
    """Return the tuples (start, end, rate) of all streams, by the part of its wish that each account pays."""
    return [(start, end, wish * parts[start]) for start, end, wish in book.streams()]


def _is_rate(value, wish):
    return is_unsigned(value) and as_ratio(value) <= wish


def _part_of(rate, wish):
    # An account without streams pays nothing, whatever the part is.
    return Ratio(0) if wish == 0 else as_ratio(rate).over(wish)
