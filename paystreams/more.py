"""What becomes of a book if more money is paid in ahead of everything, or if an inlet is greater."""

from paystreams.books import check_account
from paystreams.course import check_days, fall_moments, fall_of
from paystreams.ends import end_rates, fallen, never_falls
from paystreams.errors import BadAmount
from paystreams.rates import Flows, dry_rows, short
from paystreams.ratios import Ratio, as_ratio, is_unsigned
from paystreams.systems import least_place, solved


class Line:
    """A number that changes evenly with what is paid in: its value at first, and its growth for each unit more."""

    def __init__(self, value, growth):
        self.value = value
        self.growth = growth

    def plus(self, other):
        """Return the line of the sums."""
        return Line(self.value + other.value, self.growth + other.growth)

    def times(self, number):
        """Return the line of all numbers multiplied by a number."""
        return Line(self.value * number, self.growth * number)

    def is_less(self, other):
        """Tell whether it is below another line as soon as a little more is paid in."""
        if self.value == other.value:
            return self.growth < other.growth
        return self.value < other.value

    def room_below(self, other):
        """Return how much can be paid in until it gets above a line that is not below it; None if it never does."""
        if self.growth <= other.growth:
            return None
        return (other.value - self.value).over(self.growth - other.growth)


def fall_curve(book, name, place):
    """Return the list of the tuples (start, moment, slope) that tell when an account falls, by what is paid in."""
    _check_both(book, name, place)
    if never_falls(book, name):
        return None
    flows = Flows(book)
    found = []
    start = Ratio(0)
    room = start
    while room is not None:
        start = start + room
        moment, room = _fall_near(flows, book.paid_in(place, start), name, place)
        _add_piece(found, (start, moment.value, moment.growth))
    return found


def fall_with(book, name, place, extra):
    """Return the moment at which an account falls if an amount is paid in, and None if it never does."""
    check_account(book, name)
    return fall_of(book.paid_in(place, extra), name)


def least_extra(book, name, place, days):
    """Return the least amount that, paid in, lets an account not fall before a moment, and None if there is none."""
    _check_both(book, name, place)
    check_days(days)
    curve = fall_curve(book, name, place)
    return Ratio(0) if curve is None else _least_reaching(curve, as_ratio(days))


def end_curve(book, name, place):
    """Return the list of the tuples (start, rate, slope) that tell what an account pays in the end, by the inlet."""
    _check_both(book, name, place)
    found = []
    start = Ratio(0)
    room = start
    while room is not None:
        start = start + room
        more = book.with_inlet(place, book.inlet(place) + start)
        lines = _end_lines(more, place)
        _add_piece(found, (start, lines[name].value, lines[name].growth))
        room = _least_of([lines[other].room_below(Line(book.wish(other), Ratio(0))) for other in lines])
    return found


def least_inlet(book, name, place):
    """Return how much greater an inlet must at least be so that an account never falls; None if nothing is enough."""
    return _least_reaching(end_curve(book, name, place), book.wish(name))


def best_help(book, names, amount):
    """Return the tuple (place, moment) of the place into which an amount is paid best, and of the first fall then."""
    for name in names:
        check_account(book, name)
    if not is_unsigned(amount):
        raise BadAmount(amount)
    places = book.names()
    falling = [name for name in fallen(book) if name in names]
    if len(falling) == 0:
        return (places[0] if len(places) > 0 else None), None
    # The first one of the latest moments is the first one of the least opposite numbers.
    opposites = [-_first_fall(book.paid_in(place, amount), falling) for place in places]
    best = least_place(opposites)
    return places[best], -opposites[best]


def _check_both(book, name, place):
    check_account(book, name)
    check_account(book, place)


def _fall_near(flows, book, name, place):
    """Return the line of the moments at which an account falls, and how far it holds (None: for ever).

    All is told by what is paid in on top of the amounts of the book. The course is worked out for as little as wanted:
    the order in which the accounts have no money left stays the same until two of them change places.
    """
    amounts = {other: Line(book.amount(other), Ratio(1 if other == place else 0)) for other in book.names()}
    nothing = Line(Ratio(0), Ratio(0))
    moment = nothing
    rooms = []
    while True:
        flow = flows.at([other for other in amounts if nothing.is_less(amounts[other])])
        if name in flow.dry:
            return moment, _least_of(rooms)
        times = [amounts[other].times(Ratio(-1).over(flow.slopes[other])) for other in flow.losing]
        days = _first_line(times)
        rooms.extend([days.room_below(other) for other in times])
        moment = moment.plus(days)
        amounts = {other: amounts[other].plus(days.times(flow.slopes[other])) for other in amounts}


def _end_lines(book, place):
    """Return the dict of the lines of the end rates, by what is added to the inlet of the place."""
    dry = short(book, [])
    # What comes in at an account that pays its wish as it is changes nothing elsewhere.
    parts = solved(dry_rows(book, dry), [1 if name == place else 0 for name in dry])
    growths = {name: book.wish(name) * part for name, part in zip(dry, parts)}
    return {name: Line(rate, growths.get(name, Ratio(0))) for name, rate in end_rates(book).items()}


def _first_line(lines):
    """Return a line that no other one of the list is below, as soon as a little more is paid in."""
    best = lines[0]
    for line in lines:
        if line.is_less(best):
            best = line
    return best


def _least_of(rooms):
    """Return the least of a list of numbers, in which None stands for no limit."""
    numbers = [room for room in rooms if room is not None]
    place = least_place(numbers)
    return None if place is None else numbers[place]


def _add_piece(curve, piece):
    """Add a tuple to a curve, unless the one ahead of it goes on with the same slope."""
    if len(curve) == 0 or curve[-1][2] != piece[2]:
        curve.append(piece)


def _least_reaching(curve, goal):
    """Return the least number at which a curve that never gets less is at least so high, and None if it never is."""
    for place, (start, value, slope) in enumerate(curve):
        if goal <= value:
            return start
        if Ratio(0) < slope:
            found = start + (goal - value).over(slope)
            if place + 1 == len(curve) or found <= curve[place + 1][0]:
                return found
    return None


def _first_fall(book, names):
    """Return the first moment at which an account of a list falls, of which some do."""
    moments = fall_moments(book)
    return _least_of([moments[name] for name in names])
