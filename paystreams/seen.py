"""Falls that were seen in a book whose amounts are not known, and what they tell of these."""

from paystreams.books import check_account, with_amounts
from paystreams.course import check_days, fall_moments
from paystreams.errors import BadSight, BadTable, Clash
from paystreams.rates import Flows
from paystreams.ratios import Ratio, as_ratio, greater, is_unsigned
from paystreams.systems import least_place


class Soonest:
    """The course of a book in which each account falls as early as it can, but not before a bound of its own.

    What an account needs is what it has paid less what it got so far. It can fall only if its need is not below 0: then
    the need is just what it had at first. Who falls makes others get less, so that they need more and are short sooner.
    Therefore each one is let fall as soon as it can and would be short; nobody falls earlier with any other amounts.
    """

    def __init__(self, flows, names, bounds):
        """Set the moments of all falls, and what each account needs: what it has at first, if it falls."""
        self.bounds = bounds
        self.moments = {}
        self.needs = {name: Ratio(0) for name in names}
        now = Ratio(0)
        while now is not None:
            flow = flows.at([name for name in names if not self._may_fall(name, now)])
            for name in flow.dry:
                self.moments.setdefault(name, now)
            now = self._moved_on(flow.slopes, now)

    def _may_fall(self, name, now):
        """Tell whether an account may fall, or has fallen: from then on its need does not change any more."""
        return self.bounds[name] <= now and Ratio(0) <= self.needs[name]

    def _moved_on(self, slopes, now):
        """Let time go by until another account may fall; return the moment, and None if this never happens."""
        times = [bound - now for bound in self.bounds.values() if now < bound]
        for name in slopes:
            if self.needs[name] < 0 and slopes[name] < 0:
                times.append(self.needs[name].over(slopes[name]))
        place = least_place(times)
        if place is None:
            return None
        for name in slopes:
            self.needs[name] = self.needs[name] - slopes[name] * times[place]
        return now + times[place]


def is_sight(book, value):
    """Tell whether any value is a sight."""
    if not (isinstance(value, tuple) and len(value) == 3):
        return False
    kind, name, moment = value
    return kind in ["fell", "held"] and name in book.names() and is_unsigned(moment)


def fits_sights(book, sights, amounts):
    """Tell whether amounts fit some sights."""
    _check_sights(book, sights)
    if not _are_amounts(book, amounts):
        raise BadTable()
    moments = fall_moments(with_amounts(book, amounts))
    return all([_is_true(sight, moments) for sight in sights])


def amounts_for(book, sights):
    """Return amounts that fit some sights, and None if they clash."""
    _check_sights(book, sights)
    soonest = _soonest(book, Flows(book), sights)
    if _clash(soonest, sights):
        return None
    return {name: soonest.needs[name] if name in soonest.moments else Ratio(0) for name in book.names()}


def earliest(book, sights):
    """Return the dict of the earliest moments at which the accounts fall with amounts that fit some sights."""
    _check_sights(book, sights)
    soonest = _soonest(book, Flows(book), sights)
    if _clash(soonest, sights):
        raise Clash()
    return {name: soonest.moments.get(name) for name in book.names()}


def verdict(book, sights, name, moment):
    """Tell whether an account falls before a moment with all amounts that fit some sights, with some or with none."""
    _check_sights(book, sights)
    check_account(book, name)
    check_days(moment)
    first = earliest(book, sights)[name]
    if first is None or as_ratio(moment) <= first:
        return "late"
    return "early" if amounts_for(book, [*sights, ("held", name, moment)]) is None else "open"


def clashing(book, sights):
    """Return places of sights that clash, but not without any one of them; None if the sights do not clash."""
    _check_sights(book, sights)
    flows = Flows(book)
    places = list(range(len(sights)))
    if not _places_clash(book, flows, sights, places):
        return None
    for place in range(len(sights)):
        fewer = [other for other in places if other != place]
        if _places_clash(book, flows, sights, fewer):
            places = fewer
    return places


def _check_sights(book, sights):
    for sight in sights:
        if not is_sight(book, sight):
            raise BadSight(sight)


def _are_amounts(book, value):
    if not isinstance(value, dict) or len(value) != len(book):
        return False
    return all([name in value and is_unsigned(value[name]) for name in book.names()])


def _is_true(sight, moments):
    """Tell whether a sight is true of the course with these moments of falls."""
    kind, name, moment = sight
    fall = moments.get(name)
    if kind == "fell":
        return fall == moment
    return fall is None or as_ratio(moment) <= fall


def _soonest(book, flows, sights):
    """Return the earliest course in which nobody falls earlier than some sights allow."""
    bounds = {name: Ratio(0) for name in book.names()}
    for _, name, moment in sights:
        bounds[name] = greater(bounds[name], moment)
    return Soonest(flows, book.names(), bounds)


def _clash(soonest, sights):
    # With any amounts that fit, each account falls at this moment or later; so what is seen to fall must fall just now.
    return not all([_is_true(sight, soonest.moments) for sight in sights])


def _places_clash(book, flows, sights, places):
    chosen = [sights[place] for place in places]
    return _clash(_soonest(book, flows, chosen), chosen)
