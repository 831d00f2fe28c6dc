"""Points 3, 5, 6, 7, 8 and 27 to 30: what becomes of a book if more money is paid in, or comes in."""

import unittest
from fractions import Fraction

from paystreams.books import Book
from paystreams.course import fall_of
from paystreams.ends import end_rates, never_falls
from paystreams.errors import BadAmount, BadDays, NoAccount
from paystreams.more import best_help, end_curve, fall_curve, fall_with, least_extra, least_inlet
from paystreams.ratios import Ratio
from tests.samples import (
    BIG, FAR, NO_UNSIGNED, GivenCase, any_book, dice, great_book, model_course, no_accounts, plain, ratio, redrawn,
    shown, some_part,
)

HALF = Ratio(1, 2)
TINY = Fraction(1, 10 ** 40)


def small_book():
    return Book({"ann": (2, 0), "bob": (0, 0)}, [("ann", "bob", 1), ("bob", "", 3)])


def points_of(curve, source):
    """Fractions at all starts of a curve, just behind them, between them and far beyond."""
    starts = [plain(start) for start, _, _ in curve]
    nexts = [*starts[1:], starts[-1] + 5]
    between = [one + (other - one) * Fraction(source.randint(1, 9), 10) for one, other in zip(starts, nexts)]
    return sorted({*starts, *[start + TINY for start in starts], *[start - TINY for start in starts[1:]], *between,
                   starts[-1] + FAR})


def value_at(curve, point):
    """What a curve tells for a Fraction."""
    start, value, slope = [piece for piece in plain(curve) if piece[0] <= point][-1]
    return value + slope * (point - start)


class CurveCase(GivenCase):
    def assert_curve(self, curve):
        """It is a list of tuples of Ratios, goes on without a jump, never gets less, and has unlike slopes."""
        self.assertIs(type(curve), list)
        for piece in curve:
            self.assertEqual((type(piece), [type(number) for number in piece]), (tuple, [Ratio] * 3))
            self.assertTrue(0 <= plain(piece[2]))
        self.assertEqual(curve[0][0], 0)
        for one, other in zip(curve, curve[1:]):
            self.assertTrue(one[0] < other[0])
            self.assertNotEqual(one[2], other[2])
            self.assertEqual(one[1] + one[2] * (other[0] - one[0]), other[1])


class FallCurveTest(CurveCase):
    def test_small_books(self):
        book = small_book()
        self.assertEqual(shown(fall_curve(book, "bob", "bob")), [("0", "0", "1/2"), ("4", "2", "1/3")])
        self.assertEqual(shown(fall_curve(book, "ann", "bob")), [("0", "2", "0")])
        self.assertEqual(shown(fall_curve(book, "ann", "ann")), [("0", "2", "1")])
        self.assertEqual(shown(fall_curve(book, "bob", "ann")), [("0", "0", "0")])
        rich = book.paid_in("bob", 4)
        self.assertEqual(shown(fall_curve(rich, "bob", "ann")), [("0", "2", "0")])
        self.assertEqual(shown(fall_curve(rich.paid_in("bob", 3), "bob", "ann")), [("0", "3", "1/3"), ("3/2", "7/2", "0")])
        self.assertIsNone(fall_curve(book.with_inlet("bob", 3), "bob", "bob"))
        self.assertIsNone(fall_curve(Book({"a": (0, 0)}), "a", "a"))

    def test_a_place_that_pays_nobody(self):
        book = Book({"a": (1, 0), "b": (0, 0)}, [("a", "b", 2)])
        self.assertEqual(shown(fall_curve(book, "a", "b")), [("0", "1/2", "0")])

    def test_two_that_change_places(self):
        book = Book({"a": (0, 0), "b": (1, 0), "c": (10, 0)}, [("a", "c", 1), ("b", "c", 1), ("c", "", 3)])
        self.assertEqual(shown(fall_curve(book, "c", "a")), [("0", "11/3", "1/3"), ("11/2", "11/2", "0")])
        self.assertEqual(shown(fall_curve(book, "b", "a")), [("0", "1", "0")])

    def test_money_that_goes_round(self):
        book = Book({"a": (0, 0), "b": (0, 0)}, [("a", "b", 2), ("b", "a", 1), ("b", "", 1)])
        # a loses 1 a day, as b gets 2 and pays half of them back.
        self.assertEqual(shown(fall_curve(book, "a", "a")), [("0", "0", "1")])
        self.assertEqual(shown(fall_curve(book, "b", "a")), [("0", "0", "1")])
        # While a is dry, b gets back what it pays a: so it loses 1 a day, and a is short in the end only by b's fall.
        self.assertEqual(shown(fall_curve(book, "b", "b")), [("0", "0", "1")])
        self.assertEqual(shown(fall_curve(book, "a", "b")), [("0", "0", "0")])

    def test_against_the_course_at_all_points(self):
        source = dice(80)
        several = 0
        for _ in range(60):
            book = redrawn(source, any_book(source, 2, 6))
            curves = [(name, place, fall_curve(book, name, place)) for name in book.names() for place in book.names()]
            for name, place, curve in curves:
                self.assertIs(curve is None, never_falls(book, name))
                if curve is not None and (len(curve) > 1 or source.random() < 0.1):
                    several += len(curve) > 1
                    with self.subTest(book=book.text(), name=name, place=place):
                        self.assert_as_the_course(book, name, place, curve, source)
        self.assertGreater(several, 60)

    def assert_as_the_course(self, book, name, place, curve, source):
        self.assert_curve(curve)
        for point in points_of(curve, source):
            moment = fall_of(book.paid_in(place, ratio(point)), name)
            self.assertEqual(value_at(curve, point), plain(moment))
            self.assertEqual(fall_with(book, name, place, ratio(point)), moment)

    def test_against_the_model(self):
        source = dice(81)
        for _ in range(25):
            book = any_book(source, 1, 3)
            for name in book.names():
                place = source.choice(book.names())
                curve = fall_curve(book, name, place)
                for point in [] if curve is None else points_of(curve, source)[:4]:
                    stretches = model_course(book.paid_in(place, ratio(point)))
                    moments = [moment for moment, _, table, _ in stretches if table[name] < plain(book.wish(name))]
                    self.assertEqual(value_at(curve, point), moments[0])

    def test_numbers_of_60_digits(self):
        source = dice(82)
        for whole in [True, True, True, False]:
            book = great_book(source, whole)
            name, place = source.choice(book.names()), source.choice(book.names())
            for place in [name, place]:
                curve = fall_curve(book, name, place)
                self.assert_curve(curve)
                for point in points_of(curve, source)[:8]:
                    moment = fall_of(book.paid_in(place, ratio(point)), name)
                    self.assertEqual(value_at(curve, point), plain(moment))

    def test_no_account(self):
        self.assert_no_account(fall_curve, small_book(), "bob")
        self.assert_no_account(fall_curve, small_book(), "barn")
        for value in no_accounts(small_book()):
            self.assert_raises(NoAccount, value, fall_curve, small_book(), "ann", value)
            self.assert_raises(NoAccount, value, fall_curve, small_book().with_inlet("bob", 3), "bob", value)


class ExtraTest(CurveCase):
    def test_fall_with(self):
        book = small_book()
        for extra, moment in [(0, "0"), (2, "1"), (4, "2"), (7, "3"), (Ratio(1, 3), "1/6")]:
            self.assertEqual(fall_with(book, "bob", "bob", extra).text(), moment)
            self.assertEqual(fall_with(book, "ann", "bob", extra).text(), "2")
        self.assertIsNone(fall_with(book.with_inlet("bob", 3), "bob", "ann", 7))
        self.assertEqual(fall_with(book, "ann", "ann", FAR * BIG), FAR * BIG + 2)

    def test_least_extra(self):
        book = small_book()
        for days, extra in [(0, "0"), (1, "2"), (2, "4"), (3, "7"), (Ratio(5, 2), "11/2"), (Ratio(1, 3), "2/3")]:
            self.assertEqual(least_extra(book, "bob", "bob", days).text(), extra)
        self.assertEqual(least_extra(book, "bob", "bob", FAR), 3 * FAR - 2)
        self.assertIsNone(least_extra(book, "bob", "ann", 3))
        self.assertIsNone(least_extra(book, "bob", "ann", Ratio(1, BIG)))
        self.assertEqual(least_extra(book, "bob", "ann", 0).text(), "0")
        self.assertEqual(least_extra(book, "ann", "bob", 2).text(), "0")
        self.assertIsNone(least_extra(book, "ann", "bob", Ratio(2 * BIG + 1, BIG)))
        self.assertEqual(least_extra(book.with_inlet("bob", 3), "bob", "ann", FAR).text(), "0")

    def test_the_start_of_a_flat_piece_is_the_least_amount_for_its_moment(self):
        book = small_book().paid_in("bob", 7)
        self.assertEqual(shown(fall_curve(book, "bob", "ann")), [("0", "3", "1/3"), ("3/2", "7/2", "0")])
        self.assertEqual(least_extra(book, "bob", "ann", Ratio(7, 2)).text(), "3/2")
        self.assertIsNone(least_extra(book, "bob", "ann", Ratio(7 * BIG + 1, 2 * BIG)))

    def test_just_enough_and_a_little_less(self):
        source = dice(83)
        found = 0
        for _ in range(70):
            book = any_book(source, 1, 5)
            name, place = source.choice(book.names()), source.choice(book.names())
            moment = fall_of(book, name)
            if moment is None:
                self.assertEqual(least_extra(book, name, place, source.choice([0, 5, FAR])), 0)
                continue
            for days in [moment + some_part(source, 4), moment, moment * HALF, moment + Ratio(1, BIG), FAR]:
                with self.subTest(book=book.text(), name=name, place=place, days=shown(days)):
                    extra = least_extra(book, name, place, days)
                    if extra is None:
                        self.assertTrue(fall_with(book, name, place, FAR * FAR) < days)
                        continue
                    self.assertIsInstance(extra, Ratio)
                    self.assertTrue(0 <= plain(extra))
                    self.assertTrue(plain(days) <= plain(fall_with(book, name, place, extra)))
                    if extra != 0:
                        found += 1
                        less = extra - Ratio(1, 10 ** 70)
                        self.assertTrue(plain(fall_with(book, name, place, less)) < plain(days))
        self.assertGreater(found, 40)

    def test_errors_in_their_order(self):
        book = small_book()
        for call, error_class in [(fall_with, BadAmount), (least_extra, BadDays)]:
            for value in no_accounts(book):
                self.assert_raises(NoAccount, value, call, book, value, "barn", -1)
                self.assert_raises(NoAccount, value, call, book, "ann", value, -1)
                self.assert_raises(NoAccount, value, call, book, value, "bob", 1)
            for value in NO_UNSIGNED:
                self.assert_raises(error_class, value, call, book, "ann", "bob", value)
                self.assert_raises(error_class, value, call, book.with_inlet("bob", 3), "bob", "ann", value)


class EndCurveTest(CurveCase):
    def test_small_books(self):
        book = small_book()
        self.assertEqual(shown(end_curve(book, "bob", "ann")), [("0", "0", "1"), ("1", "1", "0")])
        self.assertEqual(shown(end_curve(book, "bob", "bob")), [("0", "0", "1"), ("3", "3", "0")])
        self.assertEqual(shown(end_curve(book, "ann", "bob")), [("0", "0", "0")])
        self.assertEqual(shown(end_curve(book, "ann", "ann")), [("0", "0", "1"), ("1", "1", "0")])
        self.assertEqual(shown(end_curve(Book({"a": (1, 1)}), "a", "a")), [("0", "0", "0")])
        self.assertEqual(shown(end_curve(book.with_inlet("bob", 4), "bob", "ann")), [("0", "3", "0")])

    def test_money_that_goes_round(self):
        book = Book({"a": (0, 0), "b": (0, 0)}, [("a", "b", 2), ("b", "a", 2), ("b", "", 2)])
        self.assertEqual(shown(end_curve(book, "a", "a")), [("0", "0", "2"), ("1", "2", "0")])
        self.assertEqual(shown(end_curve(book, "b", "a")), [("0", "0", "2"), ("1", "2", "0")])
        self.assertEqual(shown(end_curve(book, "b", "b")), [("0", "0", "2"), ("2", "4", "0")])
        self.assertEqual(shown(end_curve(book, "a", "b")), [("0", "0", "1"), ("2", "2", "0")])

    def test_a_slope_that_gets_less_twice(self):
        book = Book({"a": (0, 0), "b": (0, 0), "c": (0, 0)},
                    [("a", "b", 2), ("a", "c", 2), ("b", "c", 1), ("c", "", 9)])
        self.assertEqual(shown(end_curve(book, "c", "a")), [("0", "0", "1"), ("2", "2", "1/2"), ("4", "3", "0")])

    def test_least_inlet(self):
        book = small_book()
        self.assertEqual((least_inlet(book, "bob", "bob").text(), least_inlet(book, "ann", "ann").text()), ("3", "1"))
        self.assertEqual((least_inlet(book, "bob", "ann"), least_inlet(book, "ann", "bob")), (None, None))
        self.assertEqual(least_inlet(book.with_inlet("bob", 2), "bob", "ann").text(), "1")
        self.assertEqual(least_inlet(book.with_inlet("bob", 3), "bob", "ann").text(), "0")
        self.assertEqual(least_inlet(Book({"a": (0, 0)}), "a", "a").text(), "0")

    def test_against_the_end_rates_at_all_points(self):
        source = dice(84)
        several = enough = 0
        for _ in range(120):
            book = any_book(source)
            name, place = source.choice(book.names()), source.choice(book.names())
            with self.subTest(book=book.text(), name=name, place=place):
                curve = end_curve(book, name, place)
                self.assert_curve(curve)
                several += len(curve) > 1
                for point in points_of(curve, source):
                    more = book.with_inlet(place, book.inlet(place) + ratio(point))
                    self.assertEqual(value_at(curve, point), plain(end_rates(more)[name]))
                least = least_inlet(book, name, place)
                self.assert_least_inlet(book, name, place, least)
                enough += least is not None and least != 0
        self.assertTrue(several > 30 and enough > 20, (several, enough))

    def assert_least_inlet(self, book, name, place, least):
        def holds(more):
            return never_falls(book.with_inlet(place, book.inlet(place) + more), name)

        if least is None:
            self.assertIs(holds(FAR * FAR), False)
        else:
            self.assertIsInstance(least, Ratio)
            self.assertIs(holds(least), True)
            if least == 0:
                self.assertIs(never_falls(book, name), True)
            else:
                self.assertTrue(0 < plain(least))
                self.assertIs(holds(least - Ratio(1, 10 ** 70)), False)

    def test_numbers_of_60_digits(self):
        source = dice(85)
        for whole in [True, True, False]:
            book = great_book(source, whole)
            name, place = source.choice(book.names()), source.choice(book.names())
            for place in [name, place]:
                curve = end_curve(book, name, place)
                self.assert_curve(curve)
                for point in points_of(curve, source)[:5]:
                    more = book.with_inlet(place, book.inlet(place) + ratio(point))
                    self.assertEqual(value_at(curve, point), plain(end_rates(more)[name]))
                self.assert_least_inlet(book, name, place, least_inlet(book, name, place))

    def test_no_account(self):
        for call in [end_curve, least_inlet]:
            self.assert_no_account(call, small_book(), "bob")
            self.assert_no_account(call, small_book(), "barn")
            for value in no_accounts(small_book()):
                self.assert_raises(NoAccount, value, call, small_book(), "ann", value)
                self.assert_raises(NoAccount, value, call, small_book().with_inlet("bob", 9), "bob", value)


class HelpTest(GivenCase):
    def test_small_books(self):
        book = small_book()
        self.assertEqual(shown(best_help(book, ["ann", "bob"], 2)), ("bob", "1"))
        self.assertEqual(shown(best_help(book, ["ann"], 2)), ("ann", "4"))
        self.assertEqual(shown(best_help(book, ["ann", "ann"], 2)), ("ann", "4"))
        self.assertEqual(shown(best_help(book, ["bob", "ann", "bob"], 7)), ("bob", "2"))
        self.assertEqual(shown(best_help(book, ["bob"], 0)), ("ann", "0"))

    def test_nobody_falls(self):
        book = small_book()
        self.assertEqual(best_help(book, [], 2), ("ann", None))
        self.assertEqual(best_help(book, (), 0), ("ann", None))
        self.assertEqual(best_help(book.with_inlet("bob", 3), ["bob"], 2), ("ann", None))
        self.assertEqual(best_help(Book({"z": (0, 0), "m": (0, 0)}), ["z", "m"], 2), ("m", None))
        self.assertEqual(best_help(Book({}), [], 2), (None, None))
        self.assertEqual(shown(best_help(book.with_inlet("bob", 3), ["bob", "ann"], 2)), ("ann", "4"))

    def test_trying_all_accounts(self):
        source = dice(86)
        for _ in range(60):
            book = any_book(source)
            names = [name for name in book.names() if source.random() < 0.6]
            names = [*names, *names[:1]]
            amount = source.choice([0, some_part(source, 5)])
            source.shuffle(names)
            best = None
            for place in book.names():
                moments = [plain(fall_of(book.paid_in(place, amount), name)) for name in names]
                first = min([moment for moment in moments if moment is not None], default=None)
                if best is None or first is not None and first > best[1]:
                    best = (place, first)
            self.assertEqual(plain(best_help(book, names, amount)), best)

    def test_nobody_is_helped_better_than_directly(self):
        source = dice(87)
        for _ in range(40):
            book = any_book(source, 2, 5)
            name, place = source.sample(book.names(), 2)
            if not never_falls(book, name):
                amount = some_part(source, 9)
                self.assertTrue(fall_with(book, name, place, amount) <= fall_with(book, name, name, amount))
                self.assertEqual(best_help(book, [name], amount)[1], fall_with(book, name, name, amount))
                here, there = book.with_inlet(name, book.inlet(name) + amount), book.with_inlet(place, book.inlet(place) + amount)
                self.assertTrue(end_rates(there)[name] <= end_rates(here)[name])

    def test_numbers_of_60_digits(self):
        source = dice(88)
        for whole in [True, False]:
            book = great_book(source, whole)
            place, moment = best_help(book, book.names(), BIG)
            found = book.paid_in(place, BIG)
            self.assertEqual(min(plain(fall_of(found, name)) for name in book.names()), plain(moment))

    def test_errors_in_their_order(self):
        self.assert_no_account_in_a_list(best_help, small_book(), -1)
        self.assert_no_account_in_a_list(best_help, small_book(), 1)
        self.assert_no_account_in_a_list(best_help, Book({}), None)
        for value in NO_UNSIGNED:
            for names in [["ann"], [], ("bob", "ann")]:
                self.assert_raises(BadAmount, value, best_help, small_book(), names, value)
            self.assert_raises(BadAmount, value, best_help, Book({}), [], value)


class ArgumentTest(GivenCase):
    def test_by_name(self):
        book = small_book()
        self.assertEqual(shown(fall_curve(place="ann", name="bob", book=book)), [("0", "0", "0")])
        self.assertEqual(fall_with(extra=7, place="bob", name="bob", book=book).text(), "3")
        self.assertEqual(least_extra(days=3, place="bob", name="bob", book=book).text(), "7")
        self.assertIsNone(least_extra(days=3, place="ann", name="bob", book=book))
        self.assertEqual(shown(end_curve(place="ann", name="bob", book=book)), [("0", "0", "1"), ("1", "1", "0")])
        self.assertEqual(least_inlet(place="bob", name="bob", book=book).text(), "3")
        self.assertIsNone(least_inlet(place="ann", name="bob", book=book))
        self.assertEqual(shown(best_help(amount=2, names=("ann", "bob"), book=book)), ("bob", "1"))

    def test_nothing_that_was_passed_in_is_changed_and_what_is_returned_is_new(self):
        book, names = small_book(), ["bob", "ann", "bob"]
        text = book.text()
        for call in [lambda: fall_curve(book, "bob", "bob"), lambda: end_curve(book, "bob", "ann")]:
            kept = shown(call())
            call().clear()
            self.assertEqual(shown(call()), kept)
        best_help(book, names, 2), fall_with(book, "bob", "bob", 2), least_extra(book, "bob", "bob", 2)
        least_inlet(book, "bob", "bob")
        self.assertEqual((book.text(), names), (text, ["bob", "ann", "bob"]))


class ExampleTest(GivenCase):
    def test_the_example_of_the_interface(self):
        small = Book({"ann": (2, 0), "bob": (0, 0)}, [("ann", "bob", 1), ("bob", "", 3)])
        self.assertEqual([tuple([number.text() for number in row]) for row in fall_curve(small, "bob", "bob")],
                         [("0", "0", "1/2"), ("4", "2", "1/3")])
        self.assertEqual(fall_curve(small, "ann", "bob")[0][1].text(), "2")
        self.assertEqual((fall_with(small, "bob", "bob", 7).text(), least_extra(small, "bob", "bob", 3).text()), ("3", "7"))
        self.assertIsNone(least_extra(small, "bob", "ann", 3))
        self.assertEqual([tuple([number.text() for number in row]) for row in end_curve(small, "bob", "ann")],
                         [("0", "0", "1"), ("1", "1", "0")])
        self.assertEqual((least_inlet(small, "bob", "bob").text(), least_inlet(small, "bob", "ann")), ("3", None))
        self.assertEqual(best_help(small, ["ann", "bob"], 2)[0], "bob")
        self.assertEqual(best_help(small, ["ann", "bob"], 2)[1].text(), "1")
        self.assert_raises(NoAccount, "cy", least_extra, small, "bob", "cy", -1)


if __name__ == "__main__":
    unittest.main()
