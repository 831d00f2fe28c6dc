"""Points 2 to 8 and 40 to 42: plans of payments."""

import unittest
from fractions import Fraction

from paystreams.books import Book
from paystreams.course import fall_of, later
from paystreams.errors import BadDays, BadDeed, NoAccount
from paystreams.plans import is_plan, keeps, lacks, plan_sum, top_ups, with_plan
from paystreams.rates import short
from paystreams.ratios import Ratio, as_ratio
from tests.samples import (
    BIG, FAR, NO_POSITIVE, NO_UNSIGNED, GivenCase, any_book, dice, great_book, model_course, no_accounts, plain, ratio,
    redrawn, ring_book, shown, some_part, values_of_every_kind,
)

HALF = Ratio(1, 2)
TINY = Ratio(1, 10 ** 40)


def inn_book():
    return Book({"mill": (6, 0), "inn": (0, HALF)}, [("mill", "inn", 3), ("inn", "", 2)])


def model_stages(book, plan, until):
    """The stretches of time without a change ahead of a moment, as tuples (start, end, amounts, rates), in Fractions."""
    found, moment, rest = [], Fraction(0), plain(list(plan))
    amounts = {name: plain(book.amount(name)) for name in book.names()}
    until = plain(until)
    while True:
        while rest and rest[0][0] <= moment:
            amounts[rest[0][1]] += rest.pop(0)[2]
        end = min([until, *[deed[0] for deed in rest[:1]]])
        there = Book({name: (ratio(Fraction(amounts[name])), book.inlet(name)) for name in amounts}, book.streams())
        course = model_course(there)
        for place, (start, had, rates, slopes) in enumerate(course):
            stop = min([end - moment, *[stretch[0] for stretch in course[place + 1:place + 2]]])
            if start < stop or start == stop == end - moment:
                found.append((moment + start, moment + stop, had, rates))
                amounts = {name: had[name] + slopes[name] * (stop - start) for name in had}
        moment = end
        if end == until:
            return found, amounts, rest


def model_lacks(book, plan, name, until):
    found = []
    for start, end, _, rates in model_stages(book, plan, until)[0]:
        if start < end and rates[name] < plain(book.wish(name)):
            if found and found[-1][1] == start:
                start = found.pop()[0]
            found.append((start, end))
    return found


def some_plan(source, book, most=6):
    """A random plan, with payments at 0 and at falls, payments of 0, and several at a moment or into an account."""
    moments = [0, *[fall_of(book, name) for name in book.names()], *[some_part(source, 12) for _ in range(4)]]
    moments = [moment for moment in moments if moment is not None]
    deeds = [(source.choice(moments), source.choice(book.names()), source.choice([0, some_part(source, 5)]))
             for _ in range(source.randint(0, most))]
    return sorted(deeds, key=lambda deed: plain(deed[0]))


def wrong_deeds(book):
    """Values of every kind, and tuples that are nearly payments into an account of the book."""
    name = book.names()[0]
    found = [*values_of_every_kind(), [1, name, 2], (1, name), (1, name, 2, 3), (name, 1, 2), "abc", {1: 1, 2: 2, 3: 3}]
    found.extend((value, name, 1) for value in NO_UNSIGNED)
    found.extend((1, name, value) for value in NO_UNSIGNED)
    found.extend((1, value, 1) for value in no_accounts(book))
    return found


class PlanTest(GivenCase):
    def test_plans(self):
        book = inn_book()
        for plan in [[], [(0, "mill", 0)], [(1, "mill", 3), (1, "inn", HALF), (1, "mill", 3), (Ratio(3, 2), "inn", BIG)],
                     [(0, "inn", 1), (Ratio(0), "inn", 1)], [(Ratio(1, BIG), "mill", Ratio(1, BIG)), (BIG, "mill", BIG)]]:
            self.assertIs(is_plan(book, plan), True)
            self.assertIs(is_plan(book, tuple(plan)), True)
        self.assertIs(is_plan(Book({}), []), True)
        self.assertIs(is_plan(Book({}), [(1, "mill", 1)]), False)

    def test_wrong_plans(self):
        book = inn_book()
        for value in [*[value for value in values_of_every_kind() if value not in ([], ())], (1, "mill", 3), "mill",
                      {(1, "mill", 3): 1}, {"plan": [(1, "mill", 3)]}]:
            self.assertIs(is_plan(book, value), False)
        right = [(0, "inn", 1), (HALF, "mill", 2)]
        for value in wrong_deeds(book):
            self.assertIs(is_plan(book, [*right, value]), False)
            self.assertIs(is_plan(book, [value, *right]), False)
        for plan in [[(1, "mill", 3), (0, "inn", 1)], [(1, "mill", 3), (Ratio(BIG - 1, BIG), "mill", 1)],
                     [(0, "mill", 1), (2, "mill", 1), (1, "mill", 1), (3, "mill", 1)]]:
            self.assertIs(is_plan(book, plan), False)

    def test_the_first_wrong_deed(self):
        book = inn_book()
        right = [(0, "inn", 1), (HALF, "mill", 2)]
        calls = [lambda plan: with_plan(book, plan, -1), lambda plan: with_plan(book, plan, 0),
                 lambda plan: lacks(book, plan, "barn", -1), lambda plan: lacks(book, plan, "inn", 0),
                 lambda plan: keeps(book, plan, ["barn"], -1), lambda plan: keeps(book, plan, [], 0)]
        early = (Ratio(1, 3), "inn", 1)
        for value in [*wrong_deeds(book), early]:
            for call in calls:
                with self.subTest(value=value):
                    self.assert_raises(BadDeed, value, call, [*right, value, "x", (0, "inn", 1)])
                    self.assert_raises(BadDeed, value, call, (*right, value))
                    if value is not early:
                        self.assert_raises(BadDeed, value, call, [value, *right])

    def test_plan_sum(self):
        for plan, expected in [([], "0"), ([(0, "mill", 3)], "3"), ([(0, "mill", 3), (1, "inn", HALF), (1, "mill", 0)], "7/2"),
                               (((0, "a", BIG), (0, "a", BIG)), str(2 * BIG))]:
            found = plan_sum(plan)
            self.assertIsInstance(found, Ratio)
            self.assertEqual(found.text(), expected)


class WithPlanTest(GivenCase):
    def test_a_small_book(self):
        book = inn_book()
        plan = [(1, "mill", 3), (3, "inn", 1), (3, "inn", 2), (5, "mill", BIG)]
        for days, mill, inn in [(0, "6", "0"), (HALF, "9/2", "3/4"), (1, "6", "3/2"), (3, "0", "15/2"), (4, "0", "6")]:
            found = with_plan(book, plan, days)
            self.assertEqual((found.amount("mill").text(), found.amount("inn").text()), (mill, inn))
            self.assertEqual(found.streams(), book.streams())
        self.assertEqual(with_plan(book, plan, 5).amount("mill"), BIG)
        self.assertEqual(with_plan(book, plan, Ratio(5 * BIG - 1, BIG)).amount("mill"), 0)

    def test_payments_at_the_moment_0(self):
        book = inn_book()
        plan = [(0, "mill", 3), (0, "mill", 1)]
        self.assertEqual(with_plan(book, plan, 0), book.paid_in("mill", 4))
        self.assertEqual(with_plan(book, plan, 3), later(book.paid_in("mill", 4), 3))
        self.assertEqual(with_plan(book, [], 3), later(book, 3))
        self.assertEqual(with_plan(Book({}), [], 3), Book({}))

    def test_random_plans(self):
        source = dice(120)
        for _ in range(60):
            book = redrawn(source, any_book(source, 1, 3), 4)
            plan = some_plan(source, book)
            for days in [some_part(source, 6), *[deed[0] for deed in plan[:2]]]:
                with self.subTest(book=book.text(), plan=shown(plan), days=shown(days)):
                    there = with_plan(book, plan, days)
                    expected = model_stages(book, plan, days)[1]
                    for moment, name, amount in plain(plan):
                        if moment == plain(days) and moment > 0:
                            expected[name] += amount
                    self.assertEqual({name: plain(there.amount(name)) for name in there.names()}, expected)

    def test_bad_days(self):
        for value in NO_UNSIGNED:
            self.assert_raises(BadDays, value, with_plan, inn_book(), [(1, "mill", 3)], value)
            self.assert_raises(BadDays, value, with_plan, Book({}), [], value)


class LackTest(GivenCase):
    def test_a_small_book(self):
        book = inn_book()
        plan = [(3, "mill", 3)]
        self.assertEqual(shown(lacks(book, plan, "mill", 5)), [("2", "3"), ("4", "5")])
        self.assertEqual(shown(lacks(book, plan, "mill", 4)), [("2", "3")])
        self.assertEqual(shown(lacks(book, plan, "mill", Ratio(5, 2))), [("2", "5/2")])
        self.assertEqual(shown(lacks(book, plan, "mill", 2)), [])
        self.assertEqual(shown(lacks(book, plan, "mill", 0)), [])
        self.assertEqual(shown(lacks(book, plan, "mill", FAR)), [("2", "3"), ("4", str(FAR))])
        self.assertEqual(shown(lacks(book, plan, "inn", 7)), [("6", "7")])
        self.assertEqual(shown(lacks(book, [], "inn", 7)), [("4", "7")])
        self.assertEqual([type(item) for item in lacks(book, plan, "mill", 5)], [tuple] * 2)

    def test_a_payment_at_the_moment_of_a_fall(self):
        book = inn_book()
        self.assertEqual(shown(lacks(book, [(2, "mill", 3)], "mill", 9)), [("3", "9")])
        self.assertEqual(shown(lacks(book, [(2, "mill", 3), (3, "mill", 0)], "mill", 9)), [("3", "9")])
        self.assertEqual(shown(lacks(book, [(2, "mill", 0)], "mill", 9)), [("2", "9")])

    def test_stretches_are_as_long_as_possible(self):
        book = inn_book()
        plan = [(3, "mill", 0), (4, "inn", 5), (5, "mill", 3), (5, "mill", 3), (6, "mill", 0)]
        self.assertEqual(shown(lacks(book, plan, "mill", 9)), [("2", "5"), ("7", "9")])

    def test_payments_at_the_moment_0(self):
        dry = Book({"mill": (0, 0)}, [("mill", "", 3)])
        self.assertEqual(shown(lacks(dry, [], "mill", 2)), [("0", "2")])
        self.assertEqual(shown(lacks(dry, [(0, "mill", 3)], "mill", 2)), [("1", "2")])
        self.assertEqual(shown(lacks(dry, [(0, "mill", 0), (1, "mill", 3)], "mill", 2)), [("0", "1")])

    def test_an_account_that_another_one_feeds_again(self):
        book = Book({"a": (2, 0), "b": (0, 0)}, [("a", "b", 1), ("b", "", 1)])
        self.assertEqual(shown(lacks(book, [(5, "a", 3)], "b", 10)), [("2", "5"), ("8", "10")])

    def test_random_plans(self):
        source = dice(121)
        several = 0
        for _ in range(200):
            book = redrawn(source, any_book(source, 1, 3), 4)
            plan, until = some_plan(source, book, 9), source.choice([0, some_part(source, 8, 1), 20])
            for name in book.names():
                with self.subTest(book=book.text(), plan=shown(plan), name=name, until=shown(until)):
                    found = lacks(book, plan, name, until)
                    self.assertEqual(plain(found), model_lacks(book, plan, name, until))
                    several += len(found) > 1
                    self.assertTrue(all(isinstance(number, Ratio) for stretch in found for number in stretch))
                    self.assertIs(keeps(book, plan, [name], until), found == [])
            lacking = [name for name in book.names() if lacks(book, plan, name, until)]
            names = [name for name in book.names() if source.random() < 0.5]
            self.assertIs(keeps(book, plan, names, until), not {*names} & {*lacking})
        self.assertGreater(several, 15)

    def test_short_at_the_moments_that_are_told(self):
        source = dice(122)
        for _ in range(40):
            book = redrawn(source, any_book(source, 2, 6), 4)
            plan = some_plan(source, book, 4)
            for name in book.names():
                for start, end in lacks(book, plan, name, 9):
                    for days in [start, (start + end) * HALF, end - (end - start) * TINY]:
                        self.assertIn(name, short(with_plan(book, plan, days)))
                    if end != 9:
                        self.assertNotIn(name, short(with_plan(book, plan, end)))
                    if start != 0:
                        self.assertNotIn(name, short(with_plan(book, plan, start - TINY)))

    def test_keeps(self):
        book = inn_book()
        plan = [(2, "mill", 6), (4, "mill", 3)]
        self.assertIs(keeps(book, plan, ["mill"], 5), True)
        self.assertIs(keeps(book, plan, ["mill", "inn", "mill"], 5), True)
        self.assertIs(keeps(book, plan, ["mill"], Ratio(5 * BIG + 1, BIG)), False)
        self.assertIs(keeps(book, [(2, "mill", Ratio(3 * BIG - 1, BIG)), (3, "mill", 9)], ["mill"], 5), False)
        self.assertIs(keeps(book, [], [], FAR), True)
        self.assertIs(keeps(book, [], ["mill"], 2), True)
        self.assertIs(keeps(book, [], ["mill"], 3), False)
        self.assertIs(keeps(book, [], ["inn", "mill"], 3), False)
        self.assertIs(keeps(book, [], ["inn"], 3), True)
        self.assertIs(keeps(Book({}), [], [], 3), True)

    def test_errors_in_their_order(self):
        book, plan = inn_book(), [(1, "mill", 3)]
        for value in no_accounts(book):
            self.assert_raises(NoAccount, value, lacks, book, plan, value, -1)
            self.assert_raises(NoAccount, value, keeps, book, plan, ["inn", value, "barn"], -1)
            self.assert_raises(NoAccount, value, keeps, book, plan, (value, None), 1)
        for value in NO_UNSIGNED:
            self.assert_raises(BadDays, value, lacks, book, plan, "inn", value)
            self.assert_raises(BadDays, value, keeps, book, plan, ["inn"], value)
            self.assert_raises(BadDays, value, keeps, book, plan, [], value)


class TopUpTest(GivenCase):
    def test_a_small_book(self):
        book = inn_book()
        cases = [(["mill"], [0, 2, 4], 5, [("2", "mill", "6"), ("4", "mill", "3")]),
                 (["mill"], [0], 5, [("0", "mill", "9")]),
                 (["mill"], [0], 2, []), (["mill"], [0, 1], Ratio(5, 2), [("1", "mill", "3/2")]),
                 (["inn"], [0, 2, 4], 5, [("4", "inn", "3/2")]),
                 (["inn", "mill"], [0, 2, 4], 5, [("2", "mill", "6"), ("4", "mill", "3")]),
                 (["mill", "inn", "mill"], [0, 3], 5, [("0", "mill", "3"), ("3", "mill", "6")]),
                 (["inn"], [0, 4, 6], 7, [("4", "inn", "3"), ("6", "inn", "3/2")]), ([], [0, 1], 5, [])]
        for names, moments, until, expected in cases:
            with self.subTest(names=names, moments=moments, until=shown(until)):
                self.assertEqual(shown(top_ups(book, names, moments, until)), expected)
                self.assertEqual(shown(top_ups(book, tuple(names), tuple(moments), until)), expected)

    def test_by_the_moment_and_then_by_the_name(self):
        book = Book({"c": (0, 0), "a": (1, 0), "b": (0, 0)}, [("a", "", 1), ("b", "", 2), ("c", "", 3)])
        plan = top_ups(book, ["c", "a", "b"], [0, 1], 2)
        self.assertEqual(shown(plan), [("0", "b", "2"), ("0", "c", "3"), ("1", "a", "1"), ("1", "b", "2"), ("1", "c", "3")])
        self.assertEqual([type(deed) for deed in plan], [tuple] * 5)

    def test_what_the_others_get_from_those_that_are_kept(self):
        ring = Book({"a": (0, 0), "b": (0, 0)}, [("a", "b", 2), ("b", "a", 1), ("b", "", 1)])
        self.assertEqual(shown(top_ups(ring, ["a"], [0, 3], 5)), [("0", "a", "3"), ("3", "a", "2")])
        self.assertEqual(shown(top_ups(ring, ["b"], [0, 3], 5)), [("0", "b", "3"), ("3", "b", "2")])
        self.assertEqual(shown(top_ups(ring, ["a", "b"], [0, 3], 5)), [("0", "a", "3"), ("3", "a", "2")])

    def test_another_account_that_falls_between_the_payments(self):
        book = Book({"a": (6, 0), "b": (0, 0)}, [("a", "b", 2), ("b", "", 5)])
        # b lacks 3 a day, and 5 a day from the moment 3 on.
        self.assertEqual(shown(top_ups(book, ["b"], [0, 2], 5)), [("0", "b", "6"), ("2", "b", "13")])
        self.assertEqual(shown(top_ups(book, ["b"], [0, 1, 3, 4], 5)),
                         [("0", "b", "3"), ("1", "b", "6"), ("3", "b", "5"), ("4", "b", "5")])

    def test_an_account_that_has_more_at_first(self):
        book = Book({"a": (3, 0), "b": (1, 0)}, [("a", "b", 2), ("b", "", 1)])
        # b gains 1 a day up to the moment 3/2, and has 5/2 then.
        self.assertEqual(shown(top_ups(book, ["b"], [0, 1, 3, Ratio(9, 2)], 6)), [("3", "b", "1/2"), ("9/2", "b", "3/2")])

    def test_random_books(self):
        source = dice(123)
        paying = 0
        for _ in range(100):
            book = redrawn(source, source.choice([any_book(source), ring_book(source, 3)]), 4)
            names = [name for name in book.names() if source.random() < 0.6]
            moments = sorted({Fraction(0), *[plain(some_part(source, 6, 1)) for _ in range(source.randint(0, 3))]})
            until = ratio(moments[-1]) + source.choice([1, HALF, 3])
            moments = [ratio(Fraction(moment)) for moment in moments]
            with self.subTest(book=book.text(), names=names, moments=shown(moments), until=shown(until)):
                plan = top_ups(book, names, moments, until)
                paying += len(plan) > 0
                self.assert_top_ups(book, names, moments, until, plan)
                if plan:
                    self.assert_nothing_less_is_enough(source, book, names, until, plan)
                    self.assert_others_pay_as_much(source, book, names, moments, until, plan)
        self.assertGreater(paying, 35)

    def assert_top_ups(self, book, names, moments, until, plan):
        self.assertIs(is_plan(book, plan), True)
        self.assertEqual(plan, sorted(plan, key=lambda deed: (plain(deed[0]), deed[1])))
        self.assertEqual(len({(plain(moment), name) for moment, name, _ in plan}), len(plan))
        for moment, name, amount in plan:
            self.assertTrue(moment in moments and name in names and 0 < plain(amount))
            self.assertTrue(isinstance(moment, Ratio) and isinstance(amount, Ratio))
        self.assertIs(keeps(book, plan, names, until), True)

    def assert_nothing_less_is_enough(self, source, book, names, until, plan):
        place = source.randrange(len(plan))
        moment, name, amount = plan[place]
        for less in [amount - amount * TINY, amount * HALF, 0]:
            fewer = [*plan[:place], (moment, name, less), *plan[place + 1:]]
            self.assertIs(keeps(book, fewer, names, until), False)
            # A payment that comes later is not enough, either.
            rest = [(deed[0], deed[1], deed[2] + (amount - less if deed[1] == name else 0)) for deed in plan[place + 1:]]
            self.assertIs(keeps(book, [*plan[:place], (moment, name, less), *rest], names, until), False)

    def assert_others_pay_as_much(self, source, book, names, moments, until, plan):
        """Each other plan that keeps the accounts has paid into each of them by each moment at least as much."""
        for _ in range(6):
            other = [(moment, name, some_part(source, 4)) for moment in moments for name in names]
            other.extend((deed[0], deed[1], deed[2]) for deed in plan if source.random() < 0.8)
            other = sorted(other, key=lambda deed: plain(deed[0]))
            if keeps(book, other, names, until):
                for name in names:
                    for moment in moments:
                        sums = [sum(plain(deed[2]) for deed in deeds if deed[1] == name and deed[0] <= moment)
                                for deeds in (plan, other)]
                        self.assertLessEqual(sums[0], sums[1])

    def test_errors_in_their_order(self):
        book = inn_book()
        for value in no_accounts(book):
            self.assert_raises(NoAccount, value, top_ups, book, ["inn", value, "barn"], [1], -1)
            self.assert_raises(NoAccount, value, top_ups, book, [value], [0], 1)
        for value in NO_POSITIVE:
            self.assert_raises(BadDays, value, top_ups, book, ["inn"], [1], value)
            self.assert_raises(BadDays, value, top_ups, book, [], [0], value)
        wrong = [*values_of_every_kind(), [1, 2], [HALF], [0, 0], [0, 2, 1], [0, 2, 2], [0, 5], [0, Ratio(5)], [0, 6],
                 [0, Ratio(5 * BIG + 1, BIG)], [0, "1"], [0, None], [0, True], [False, 1], [False], [None], [0, [1]],
                 [0, -1], [-1, 0], (1, 2), (0, 5), {0: 1}, "0", [Ratio(-1, BIG), 1], [[0, 1]]]
        for value in wrong:
            with self.subTest(value=value):
                self.assert_raises(BadDeed, value, top_ups, book, ["mill"], value, 5)
                self.assert_raises(BadDeed, value, top_ups, book, [], value, Ratio(5))
        for value in [[0], (0,), [Ratio(0), HALF], [0, Ratio(5 * BIG - 1, BIG)], (0, 1, Ratio(3, 2))]:
            self.assertIs(is_plan(book, top_ups(book, ["mill"], value, 5)), True)


class ArgumentTest(GivenCase):
    def test_by_name(self):
        book = inn_book()
        plan = ((3, "mill", 3),)
        self.assertIs(is_plan(value=plan, book=book), True)
        self.assertEqual(with_plan(days=3, plan=plan, book=book).amount("mill"), 3)
        self.assertEqual(plan_sum(plan=plan), 3)
        self.assertEqual(shown(lacks(until=5, name="mill", plan=plan, book=book)), [("2", "3"), ("4", "5")])
        self.assertIs(keeps(until=5, names=("mill",), plan=plan, book=book), False)
        self.assertEqual(shown(top_ups(until=5, moments=(0, 4), names=("mill",), book=book)), [("0", "mill", "6"), ("4", "mill", "3")])

    def test_nothing_that_was_passed_in_is_changed_and_what_is_returned_is_new(self):
        book, plan, names, moments = inn_book(), [(3, "mill", 3), (3, "inn", 0)], ["mill", "inn", "mill"], [0, 1, 3]
        text = book.text()
        for call in [lambda: lacks(book, plan, "mill", 5), lambda: top_ups(book, names, moments, 5)]:
            kept = shown(call())
            call().clear()
            self.assertEqual(shown(call()), kept)
        with_plan(book, plan, 4), is_plan(book, plan), plan_sum(plan), keeps(book, plan, names, 9)
        self.assertEqual((book.text(), plan, names, moments),
                         (text, [(3, "mill", 3), (3, "inn", 0)], ["mill", "inn", "mill"], [0, 1, 3]))
        self.assertIs(type(moments[1]), int)

    def test_numbers_of_60_digits(self):
        source = dice(124)
        for whole in [True, False]:
            book = great_book(source, whole)
            names = book.names()[:4]
            until = as_ratio(fall_of(book, names[0])) + 1
            moments = [0, until * Ratio(1, 7), until * Ratio(2, 3)]
            plan = top_ups(book, names, moments, until)
            self.assert_kept(book, plan, names, until)
            self.assertTrue(with_plan(book, plan, until).amount(names[1]) == 0)
            self.assertEqual(lacks(book, plan, names[0], until), [])
            self.assertNotEqual(lacks(book, plan[:-1], plan[-1][1], until), [])

    def assert_kept(self, book, plan, names, until):
        self.assertIs(keeps(book, plan, names, until), True)
        self.assertEqual(plain(plan_sum(plan)), sum(plain(amount) for _, _, amount in plan))


class ExampleTest(GivenCase):
    def test_the_example_of_the_interface(self):
        book = Book({"mill": (6, 0), "inn": (0, Ratio(1, 2))}, [("mill", "inn", 3), ("inn", "", 2)])
        there = with_plan(book, [(1, "mill", 3)], 3)
        self.assertEqual((there.amount("mill").text(), there.amount("inn").text()), ("0", "9/2"))
        self.assertIs(is_plan(book, [(1, "mill", 3), (0, "inn", 1)]), False)
        self.assertEqual([(start.text(), end.text()) for start, end in lacks(book, [(3, "mill", 3)], "mill", 5)],
                         [("2", "3"), ("4", "5")])
        plan = top_ups(book, ["mill"], [0, 2, 4], 5)
        self.assertEqual([(moment.text(), name, amount.text()) for moment, name, amount in plan],
                         [("2", "mill", "6"), ("4", "mill", "3")])
        self.assertEqual((keeps(book, plan, ["mill"], 5), plan_sum(plan).text()), (True, "9"))
        wrong = [1, 2]
        self.assert_raises(BadDeed, wrong, top_ups, book, ["mill"], wrong, 5)


if __name__ == "__main__":
    unittest.main()
