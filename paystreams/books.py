"""Books of accounts, and of the streams by which they pay one another."""

from paystreams.errors import BadAmount, BadInlet, BadLine, BadName, BadStream, BadText, NoAccount, NoStream, TooMuch
from paystreams.ratios import Ratio, as_ratio, is_positive, is_unsigned, total

_LONGEST_NAME = 8


class Book:
    """Some accounts, each with an amount and an inlet, and the streams that lead from them; it never changes."""

    def __init__(self, accounts, streams=()):
        _check_accounts(accounts)
        _check_streams(list(accounts), streams)
        names = sorted([str(name) for name in accounts])
        wishes = {(start, end): as_ratio(wish) for start, end, wish in streams}
        places = [(start, end) for start in names for end in ["", *names]]
        self._accounts = {name: _as_ratios(accounts[name]) for name in names}
        self._wishes = {place: wishes[place] for place in places if place in wishes}

    @classmethod
    def read(cls, text):
        """Return the book with a text."""
        accounts = {}
        streams = []
        lines = text.split("\n") if text != "" else []
        for number, line in enumerate(lines, start=1):
            words = line.split(" ")
            if len(streams) == 0 and _tells_account(words, accounts):
                accounts[words[1]] = (_number_in(words[2]), _number_in(words[3]))
            elif _tells_stream(words, accounts, streams):
                streams.append((words[1], end_in(words[2]), _number_in(words[3])))
            else:
                raise BadLine(number)
        return cls(accounts, streams)

    def text(self):
        """Return the text: a line for each account, and then a line for each stream."""
        accounts = [["account", name, amount.text(), inlet.text()] for name, (amount, inlet) in self._accounts.items()]
        streams = [["stream", start, end or "-", wish.text()] for start, end, wish in self.streams()]
        return "\n".join([" ".join(words) for words in [*accounts, *streams]])

    def names(self):
        """Return the ascending list of the names."""
        return list(self._accounts)

    def streams(self):
        """Return the list of the streams (start, end, wish), ascending by start and then by end."""
        return [(start, end, wish) for (start, end), wish in self._wishes.items()]

    def __len__(self):
        return len(self._accounts)

    def __eq__(self, other):
        return isinstance(other, Book) and self._accounts == other._accounts and self._wishes == other._wishes

    def amount(self, name):
        """Return what an account has."""
        return self._account(name)[0]

    def inlet(self, name):
        """Return what comes in for an account from outside of the book a day."""
        return self._account(name)[1]

    def wish(self, name):
        """Return the sum of the wishes of the streams that lead from an account."""
        check_account(self, name)
        return total([wish for start, _, wish in self.streams() if start == name])

    def wish_of(self, start, end):
        """Return the wish of a stream."""
        self._check_stream(start, end)
        return self._wishes[start, end]

    def paid_in(self, name, amount):
        """Return the book in which an account has so much more."""
        before, inlet = self._account(name)
        if not is_unsigned(amount):
            raise BadAmount(amount)
        return self._with_account(name, before + amount, inlet)

    def drawn(self, name, amount):
        """Return the book in which an account has so much less."""
        before, inlet = self._account(name)
        if not is_unsigned(amount):
            raise BadAmount(amount)
        if before < amount:
            raise TooMuch(amount)
        return self._with_account(name, before - amount, inlet)

    def with_inlet(self, name, inlet):
        """Return the book with another inlet of an account."""
        return self._with_account(name, self.amount(name), inlet)

    def with_stream(self, start, end, wish):
        """Return the book with one more stream, or with another wish of this stream."""
        return Book(self._accounts, [*self._streams_but(start, end), (start, end, wish)])

    def without_stream(self, start, end):
        """Return the book without a stream."""
        self._check_stream(start, end)
        return Book(self._accounts, self._streams_but(start, end))

    def _account(self, name):
        check_account(self, name)
        return self._accounts[name]

    def _check_stream(self, start, end):
        if not (isinstance(start, str) and isinstance(end, str) and (start, end) in self._wishes):
            raise NoStream((start, end))

    def _with_account(self, name, amount, inlet):
        return Book({**self._accounts, name: (amount, inlet)}, self.streams())

    def _streams_but(self, start, end):
        return [stream for stream in self.streams() if stream[:2] != (start, end)]


def is_name(value):
    """Tell whether a value can be the name of an account."""
    if not (isinstance(value, str) and 1 <= len(value) <= _LONGEST_NAME):
        return False
    return all(["a" <= letter <= "z" for letter in value])


def check_account(book, name):
    """Raise NoAccount unless any value is the name of an account."""
    # It is looked up in a list, as it may be a value that cannot be a key of a dict.
    if name not in book.names():
        raise NoAccount(name)


def accounts_of(book):
    """Return the dict of the tuples (amount, inlet) of all accounts, as Book takes it."""
    return {name: (book.amount(name), book.inlet(name)) for name in book.names()}


def with_amounts(book, amounts):
    """Return the book in which the accounts have the amounts of a dict."""
    return Book({name: (amounts[name], book.inlet(name)) for name in book.names()}, book.streams())


def end_in(word):
    """Return the end of a stream that a word of a text tells, and None for a word that tells none."""
    if word == "-":
        return ""
    return word if is_name(word) else None


def _check_accounts(accounts):
    for name in accounts:
        if not is_name(name):
            raise BadName(name)
    for amount, inlet in accounts.values():
        if not is_unsigned(amount):
            raise BadAmount(amount)
        if not is_unsigned(inlet):
            raise BadInlet(inlet)


def _check_streams(names, streams):
    places = []
    for stream in streams:
        if not _is_stream(stream, names) or stream[:2] in places:
            raise BadStream(stream)
        places.append(stream[:2])


def _is_stream(value, names):
    """Tell whether any value is a stream of a book with these names."""
    if not (isinstance(value, tuple) and len(value) == 3):
        return False
    start, end, wish = value
    return start in names and end in ["", *names] and start != end and is_positive(wish)


def _as_ratios(account):
    amount, inlet = account
    return as_ratio(amount), as_ratio(inlet)


def _tells_account(words, accounts):
    """Tell whether a line of these words can stand behind the lines of these accounts."""
    if len(words) != 4 or words[0] != "account" or not is_name(words[1]):
        return False
    ascends = all([name < words[1] for name in accounts])
    return ascends and is_unsigned(_number_in(words[2])) and is_unsigned(_number_in(words[3]))


def _tells_stream(words, accounts, streams):
    """Tell whether a line of these words can stand behind the lines of these accounts and streams."""
    if len(words) != 4 or words[0] != "stream":
        return False
    told = (words[1], end_in(words[2]), _number_in(words[3]))
    return _is_stream(told, list(accounts)) and all([stream[:2] < told[:2] for stream in streams])


def _number_in(word):
    """Return the Ratio that a word tells, and None for a word that tells none."""
    try:
        return Ratio.read(word)
    except BadText:
        return None
