"""Plans of payments into a book from outside."""

from paystreams.books import check_account
from paystreams.course import amounts_at, check_days, fall_moments, later, stretches
from paystreams.errors import BadDays, BadDeed
from paystreams.ratios import Ratio, as_ratio, is_number, is_positive, is_unsigned, total


def is_plan(book, value):
    """Tell whether any value is a plan: a list or tuple of payments whose moments never get less."""
    return isinstance(value, (list, tuple)) and _wrong_place(book, value) is None


def with_plan(book, plan, days):
    """Return the book so many days later if all payments of a plan up to then are made."""
    _check_plan(book, plan)
    check_days(days)
    moment, there = _stages(book, plan, days)[-1]
    return later(there, as_ratio(days) - moment)


def plan_sum(plan):
    """Return the sum of the amounts of a plan."""
    return total([amount for _, _, amount in plan])


def lacks(book, plan, name, until):
    """Return the list of the tuples (start, end) of all stretches of time in which an account is short."""
    _check_plan(book, plan)
    check_account(book, name)
    check_days(until)
    return _lacks_of(_falls_in_stages(book, plan, until), name, until)


def keeps(book, plan, names, until):
    """Tell whether no account of a list is short at any moment ahead of one."""
    _check_plan(book, plan)
    for name in names:
        check_account(book, name)
    check_days(until)
    stages = _falls_in_stages(book, plan, until)
    return all([len(_lacks_of(stages, name, until)) == 0 for name in names])


def top_ups(book, names, moments, until):
    """Return the plan that keeps some accounts, and pays at some moments alone, as late and as little as possible.

    Where they are kept, they pay their wishes, however much they have. So it is known ahead of all payments what each
    of them gets by any moment, and what it must be paid: just what it lacks at the next moment for payments. As what
    comes in gets less as time goes by, it lacks nothing before then.
    """
    for name in names:
        check_account(book, name)
    if not is_positive(until):
        raise BadDays(until)
    if not _are_moments(moments, until):
        raise BadDeed(moments)
    course = stretches(book, until, names)
    plan = []
    kept = [name for name in book.names() if name in names]
    given = {name: Ratio(0) for name in kept}
    for moment, end in zip(moments, [*moments[1:], until]):
        amounts = amounts_at(course, end)
        for name in kept:
            lacking = -(amounts[name] + given[name])
            if Ratio(0) < lacking:
                plan.append((as_ratio(moment), name, lacking))
                given[name] = given[name] + lacking
    return plan


def _check_plan(book, plan):
    place = _wrong_place(book, plan)
    if place is not None:
        raise BadDeed(plan[place])


def _wrong_place(book, deeds):
    """Return the place of the first item that is no payment, or has a lesser moment than the one ahead of it."""
    before = Ratio(0)
    for place, deed in enumerate(deeds):
        if not _is_deed(book, deed) or as_ratio(deed[0]) < before:
            return place
        before = as_ratio(deed[0])
    return None


def _is_deed(book, value):
    if not (isinstance(value, tuple) and len(value) == 3):
        return False
    moment, name, amount = value
    return is_unsigned(moment) and name in book.names() and is_unsigned(amount)


def _stages(book, plan, until):
    """Return the tuples (moment, book) of 0 and all moments of payments up to one, with the book behind them."""
    found = [(Ratio(0), book)]
    for moment, name, amount in plan:
        before, there = found[-1]
        if before == moment:
            found[-1] = (before, there.paid_in(name, amount))
        elif as_ratio(moment) <= until:
            found.append((as_ratio(moment), later(there, as_ratio(moment) - before).paid_in(name, amount)))
    return found


def _falls_in_stages(book, plan, until):
    """Return the tuples (moment, falls) of these stages, with the dict of the moments of falls if no more is paid."""
    found = []
    for start, there in _stages(book, plan, until):
        moments = fall_moments(there)
        found.append((start, {name: start + moments[name] for name in moments}))
    return found


def _lacks_of(stages, name, until):
    """Return the tuples (start, end) of the stretches of time in which an account is short, as long as possible."""
    ends = [*[start for start, _ in stages[1:]], as_ratio(until)]
    found = []
    for (_, moments), end in zip(stages, ends):
        if name in moments and moments[name] < end:
            joins = len(found) > 0 and found[-1][1] == moments[name]
            start = found.pop()[0] if joins else moments[name]
            found.append((start, end))
    return found


def _are_moments(value, until):
    """Tell whether any value is a list of ascending numbers from 0 on, the last one of which is less than a number."""
    if not isinstance(value, (list, tuple)) or len(value) == 0 or not all([is_number(item) for item in value]):
        return False
    ascends = all([as_ratio(one) < other for one, other in zip(value, [*value[1:], until])])
    return ascends and as_ratio(value[0]) == 0
