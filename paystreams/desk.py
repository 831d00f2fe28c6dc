"""A desk that keeps a book over time, by steps that can be taken back."""

from paystreams.books import Book, accounts_of, end_in, is_name, with_amounts
from paystreams.course import amounts_at, check_days, falls, flowed_by, stretches
from paystreams.errors import BadLine, BadName, BadText, InUse, NothingToRedo, NothingToUndo, StreamError
from paystreams.rates import short
from paystreams.ratios import Ratio, as_ratio, total


class Standing:
    """How a desk stands behind some steps; it never changes."""

    def __init__(self, moment, page, flows, came, taken):
        """Set the moment and the book, what has flowed in each stream, and what came from outside and was drawn."""
        self.moment = moment
        self.page = page
        self.flows = flows
        self.came = came
        self.taken = taken

    def turned_to(self, page, came=0, taken=0):
        """Return how it stands when the book is another one, and so much came from outside or was drawn."""
        return Standing(self.moment, page, self.flows, self.came + came, self.taken + taken)

    def moved_on(self, days):
        """Return how it stands so many days later."""
        course = stretches(self.page, days)
        page = with_amounts(self.page, amounts_at(course, days))
        flows = {place: self.flows[place] for place in self.flows}
        for start, end, amount in flowed_by(course, days):
            flows[start, end] = amount + flows.get((start, end), 0)
        inlets = total([page.inlet(name) for name in page.names()])
        return Standing(self.moment + days, page, flows, self.came + inlets * days, self.taken)


class Step:
    """A step of a desk: its line in the text of the desk, and how the desk stands behind it."""

    def __init__(self, line, standing):
        self.line = line
        self.standing = standing


class Desk:
    """A book that is kept over time, with deeds at moments; at first it has no accounts."""

    def __init__(self):
        # These lists are replaced, never changed, so a trial can keep them as they are.
        self._done = []
        self._undone = []

    def add(self, name, inlet):
        """Add an account with the amount 0."""
        book = self.book()
        if not is_name(name):
            raise BadName(name)
        if name in book.names():
            raise InUse(name)
        # Whether the inlet is right, the new book tells.
        accounts = accounts_of(book)
        accounts[name] = (0, inlet)
        book = Book(accounts, book.streams())
        self._do(["add", name, _text_of(inlet)], self._standing().turned_to(book))

    def pay(self, name, amount):
        """Pay an amount into an account from outside."""
        book = self.book().paid_in(name, amount)
        self._do(["pay", name, _text_of(amount)], self._standing().turned_to(book, came=amount))

    def draw(self, name, amount):
        """Draw an amount from an account."""
        book = self.book().drawn(name, amount)
        self._do(["draw", name, _text_of(amount)], self._standing().turned_to(book, taken=amount))

    def turn(self, name, inlet):
        """Give an account another inlet."""
        book = self.book().with_inlet(name, inlet)
        self._do(["turn", name, _text_of(inlet)], self._standing().turned_to(book))

    def stream(self, start, end, wish):
        """Begin a stream, or give it another wish."""
        book = self.book().with_stream(start, end, wish)
        self._do(["stream", start, end or "-", _text_of(wish)], self._standing().turned_to(book))

    def stop(self, start, end):
        """End a stream."""
        book = self.book().without_stream(start, end)
        self._do(["stop", start, end or "-"], self._standing().turned_to(book))

    def wait(self, days):
        """Let so many days go by."""
        check_days(days)
        self._do(["wait", _text_of(days)], self._standing().moved_on(days))

    def now(self):
        """Return the moment."""
        return self._standing().moment

    def book(self):
        """Return the book of now."""
        return self._standing().page

    def __len__(self):
        return len(self._done)

    def flowed(self, start, end):
        """Return what has flowed from an account to another one, or out, over all time; 0 for any other values."""
        if not (isinstance(start, str) and isinstance(end, str)):
            return Ratio(0)
        return self._standing().flows.get((start, end), Ratio(0))

    def fallen(self):
        """Return the ascending list of the accounts that are short now."""
        return short(self.book())

    def next_fall(self):
        """Return the tuple (moment, names) of the next falls if nobody changes anything, and None if there are none."""
        for moment, names in falls(self.book()):
            if Ratio(0) < moment:
                return self.now() + moment, names
        return None

    def sums(self):
        """Return the tuple of what came in, what the accounts have, what has flowed out and what was drawn."""
        standing = self._standing()
        have = total([standing.page.amount(name) for name in standing.page.names()])
        out = total([amount for (_, end), amount in standing.flows.items() if end == ""])
        return standing.came, have, out, standing.taken

    def undo(self):
        """Take the last step back."""
        if len(self._done) == 0:
            raise NothingToUndo()
        self._undone = [*self._undone, self._done[-1]]
        self._done = self._done[:-1]

    def redo(self):
        """Do the last step that was taken back again."""
        if len(self._undone) == 0:
            raise NothingToRedo()
        self._done = [*self._done, self._undone[-1]]
        self._undone = self._undone[:-1]

    def trial(self):
        """Return what leaves the desk, at the end of a with block, as it was at its beginning."""
        return Trial(self)

    def text(self):
        """Return the text: a line for each step."""
        return "\n".join([step.line for step in self._done])

    def supposed(self, text):
        """Return the tuple (moment, book) that there would be after the steps of a text."""
        with self.trial():
            _do_lines(self, text)
            return self.now(), self.book()

    def _standing(self):
        if len(self._done) == 0:
            return Standing(Ratio(0), Book({}), {}, Ratio(0), Ratio(0))
        return self._done[-1].standing

    def _do(self, words, standing):
        self._done = [*self._done, Step(" ".join(words), standing)]
        self._undone = []


class Kept:
    """What a trial keeps of a desk, and what it kept before."""

    def __init__(self, done, undone, before):
        self.done = done
        self.undone = undone
        self.before = before


class Trial:
    """What leaves a desk, at the end of a with block, as it was at its beginning."""

    def __init__(self, desk):
        self._desk = desk
        self._kept = None

    def __enter__(self):
        self._kept = Kept(self._desk._done, self._desk._undone, self._kept)

    def __exit__(self, kind, value, trace):
        self._desk._done = self._kept.done
        self._desk._undone = self._kept.undone
        self._kept = self._kept.before


def read_desk(text):
    """Return a desk with the steps of a text."""
    desk = Desk()
    _do_lines(desk, text)
    return desk


def _do_lines(desk, text):
    """Do the steps of a text, up to the first line that is none."""
    lines = text.split("\n") if text != "" else []
    for number, line in enumerate(lines, start=1):
        try:
            _do_words(desk, line.split(" "))
        except StreamError:
            raise BadLine(number) from None


def _do_words(desk, words):
    """Do the step that the words of a line tell; raise a StreamError if they tell none."""
    kind, given = words[0], words[1:]
    if kind == "wait" and len(given) == 1:
        desk.wait(Ratio.read(given[0]))
    elif kind == "stop" and len(given) == 2:
        desk.stop(given[0], end_in(given[1]))
    elif kind == "stream" and len(given) == 3:
        desk.stream(given[0], end_in(given[1]), Ratio.read(given[2]))
    elif kind in ["add", "pay", "draw", "turn"] and len(given) == 2:
        _do_with_number(desk, kind, given[0], Ratio.read(given[1]))
    else:
        raise BadText()


def _do_with_number(desk, kind, name, number):
    if kind == "add":
        desk.add(name, number)
    elif kind == "pay":
        desk.pay(name, number)
    elif kind == "draw":
        desk.draw(name, number)
    else:
        desk.turn(name, number)


def _text_of(number):
    return as_ratio(number).text()
