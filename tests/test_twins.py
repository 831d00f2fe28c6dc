"""Points 2 to 8 and 34 to 36: two books, and books in which accounts are joined or taken out."""

import unittest
from itertools import combinations

from paystreams.books import Book
from paystreams.course import fall_of, later
from paystreams.errors import NoAccount, UnlikeBooks
from paystreams.ratios import Ratio
from paystreams.twins import act_alike, greatest_inflow, joined, parting, stays_dry, taken_out, thinned
from tests.samples import (
    BIG, FAR, GivenCase, amounts_of, any_book, dice, great_book, model_inflows, model_rates, moments_of, no_accounts,
    plain, redrawn, some_book, some_part,
)

HALF = Ratio(1, 2)


def with_money(book, amounts):
    return Book({name: (amounts[name], book.inlet(name)) for name in book.names()}, book.streams())


def model_slopes(book, rich):
    table = model_rates(book, rich)
    coming = model_inflows(book, table)
    return {name: coming[name] - table[name] for name in table}


def model_alike(one, other):
    """Whether each account gets as much more a day in both books, for each lot of rich accounts."""
    names = one.names()
    lots = [rich for many in range(len(names) + 1) for rich in combinations(names, many)]
    return all(model_slopes(one, rich) == model_slopes(other, rich) for rich in lots)


def twin_of(source, book, sure=True):
    """A book with the same slopes: what a stream brings from an account that never falls comes by inlets instead.

    Only a stream of an account whose inlet alone is enough for its wish is changed, or, if this need not be sure, one
    for which the inlet alone is enough: then the slopes are the same while all have money. None if there is none.
    """
    part = source.choice([1, HALF])
    found = [stream for stream in book.streams()
             if (book.wish(stream[0]) if sure else stream[2] * part) <= book.inlet(stream[0])]
    if not found:
        return None
    start, end, wish = source.choice(found)
    less = book.without_stream(start, end) if part == 1 else book.with_stream(start, end, wish * part)
    less = less.with_inlet(start, book.inlet(start) - wish * part)
    return less if end == "" else less.with_inlet(end, book.inlet(end) + wish * part)


def changed(source, book):
    """The book with one inlet or stream changed."""
    name = source.choice(book.names())
    if source.random() < 0.4 or not book.streams():
        return book.with_inlet(name, some_part(source, 3))
    start, end, wish = source.choice(book.streams())
    if source.random() < 0.4:
        return book.without_stream(start, end)
    return book.with_stream(start, end, wish + some_part(source, 2))


class AlikeTest(GivenCase):
    def test_small_books(self):
        one = Book({"ann": (0, 5), "bob": (0, 0)}, [("ann", "bob", 2)])
        cases = [(Book({"ann": (9, 3), "bob": (0, 2)}), True), (one, True), (one.paid_in("bob", BIG), True),
                 (one.with_inlet("ann", 1), False), (one.with_stream("bob", "", 1), False),
                 (one.with_stream("bob", "", 2), False), (one.with_inlet("ann", Ratio(5 * BIG + 1, BIG)), False),
                 (one.with_stream("ann", "", 3).with_inlet("ann", 8), True),
                 (one.with_stream("ann", "", 4).with_inlet("ann", 8), False)]
        for other, expected in cases:
            for first, second in [(one, other), (other, one)]:
                self.assertIs(act_alike(first, second), expected)
                self.assertIs(parting(first, second) is None, expected)

    def test_books_that_part_only_for_some_rich_accounts(self):
        one = Book({"a": (0, 2), "b": (0, 0)}, [("a", "b", 2), ("b", "", 2)])
        other = Book({"a": (0, 0), "b": (0, 2)}, [("b", "", 2)])
        self.assertIs(act_alike(one, other), True)
        # If a has nothing, it pays b less here than comes in at b there; if it has money, it loses some here.
        poorer = one.with_inlet("a", 1)
        self.assertIs(act_alike(poorer, other.with_inlet("b", 1)), False)
        ring = Book({"a": (0, 0), "b": (0, 0)}, [("a", "b", 1), ("b", "a", 1)])
        self.assertIs(act_alike(ring, Book({"a": (0, 0), "b": (0, 0)})), True)
        self.assertIs(act_alike(ring, ring.with_stream("b", "a", 2)), False)
        amounts, days = parting(ring, ring.with_stream("b", "a", 2))
        self.assertTrue(0 < plain(amounts["b"]) and 0 < plain(days))
        # These two have the same slopes whenever a has money.
        one = Book({"a": (5, 1), "b": (5, 0)}, [("a", "b", 2)])
        self.assert_parting(one, Book({"a": (5, 0), "b": (5, 2)}, [("a", "", 1)]), False)

    def test_books_without_accounts_or_streams(self):
        self.assertEqual((act_alike(Book({}), Book({})), parting(Book({}), Book({}))), (True, None))
        self.assertIs(act_alike(Book({"a": (1, 1)}), Book({"a": (2, 1)})), True)
        self.assertIs(act_alike(Book({"a": (1, 1)}), Book({"a": (1, 2)})), False)

    def test_random_books_against_the_rates_for_all_rich_accounts(self):
        source = dice(100)
        alike = 0
        for _ in range(90):
            one = any_book(source, 1, 3)
            other = redrawn(source, source.choice([one, changed(source, one), changed(source, changed(source, one))]))
            other = twin_of(source, other, source.random() < 0.5) or other
            with self.subTest(one=one.text(), other=other.text()):
                expected = model_alike(one, other)
                alike += expected
                self.assertIs(act_alike(one, other), expected)
                self.assertIs(act_alike(other, one), expected)
                self.assert_parting(one, other, expected)
        self.assertTrue(20 < alike < 70, alike)

    def assert_parting(self, one, other, alike):
        found = parting(one, other)
        if alike:
            self.assertIsNone(found)
            return
        amounts, days = found
        self.assertEqual((type(found), type(amounts), {*amounts}), (tuple, dict, {*one.names()}))
        for number in [days, *amounts.values()]:
            self.assertIsInstance(number, Ratio)
        self.assertTrue(0 < plain(days) and all(0 <= plain(amount) for amount in amounts.values()))
        self.assertNotEqual(amounts_of(later(with_money(one, amounts), days)),
                            amounts_of(later(with_money(other, amounts), days)))

    def test_twins_have_the_same_amounts_at_all_moments(self):
        source = dice(101)
        found = 0
        for _ in range(150):
            one = any_book(source, 2, 6)
            for name in one.names()[:3]:
                one = one.with_inlet(name, one.wish(name) + source.choice([0, some_part(source, 2)]))
            other = twin_of(source, one)
            if other is not None:
                found += one != other
                self.assertIs(act_alike(one, other), True)
                money = amounts_of(redrawn(source, one))
                for days in moments_of(with_money(one, money), source):
                    self.assertEqual(amounts_of(later(with_money(one, money), days)),
                                     amounts_of(later(with_money(other, money), days)))
        self.assertGreater(found, 60)

    def test_greater_books_part(self):
        source = dice(102)
        parted = 0
        for _ in range(60):
            one = any_book(source, 4, 6)
            other = changed(source, one)
            if parting(one, other) is not None:
                parted += 1
                self.assertIs(act_alike(one, other), False)
                self.assert_parting(one, other, False)
        self.assertGreater(parted, 30)

    def test_unlike_names(self):
        one = Book({"a": (0, 0), "b": (0, 0)})
        for other in [Book({}), Book({"a": (0, 0)}), Book({"a": (0, 0), "c": (0, 0)}), Book({name: (0, 0) for name in "abc"})]:
            for call in [act_alike, parting]:
                self.assertRaises(UnlikeBooks, call, one, other)
                self.assertRaises(UnlikeBooks, call, other, one)

    def test_numbers_of_60_digits(self):
        source = dice(103)
        for whole in [True, False]:
            book = great_book(source, whole)
            self.assertIs(act_alike(book, book.paid_in("mill", BIG)), True)
            other = book.with_inlet("inn", book.inlet("inn") + Ratio(1, BIG))
            self.assert_parting(book, other, False)
        rich = book.with_inlet("mill", book.wish("mill") + 1)
        twin = twin_of(source, rich)
        self.assertNotEqual(rich, twin)
        self.assertIs(act_alike(rich, twin), True)


class JoinedTest(GivenCase):
    def test_small_books(self):
        book = Book({"a": (1, HALF), "b": (2, 3), "c": (4, 5), "d": (0, 0)},
                    [("a", "b", 1), ("b", "a", 2), ("a", "c", 3), ("b", "c", 4), ("a", "", 5), ("b", "", 6),
                     ("c", "a", 7), ("c", "b", 8), ("d", "b", 9), ("b", "d", 10), ("c", "d", 11)])
        lines = ["account a 3 7/2", "account c 4 5", "account d 0 0", "stream a - 11", "stream a c 7", "stream a d 10",
                 "stream c a 15", "stream c d 11", "stream d a 9"]
        self.assertEqual(joined(book, "a", "b").text().split("\n"), lines)
        expected = Book({"b": (3, Ratio(7, 2)), "c": (4, 5), "d": (0, 0)},
                        [("b", "", 11), ("b", "c", 7), ("b", "d", 10), ("c", "b", 15), ("c", "d", 11), ("d", "b", 9)])
        self.assertEqual(joined(book, "b", "a"), expected)

    def test_all_pairs_of_random_books(self):
        source = dice(104)
        for _ in range(40):
            book = any_book(source, 2, 6)
            text = book.text()
            for first in book.names():
                for second in book.names():
                    if first != second:
                        self.assert_joined(book, first, second, joined(book, first, second))
            self.assertEqual(book.text(), text)

    def assert_joined(self, book, first, second, found):
        self.assertEqual(found.names(), [name for name in book.names() if name != second])
        wishes = {}
        for start, end, wish in plain(book.streams()):
            place = tuple(first if name == second else name for name in (start, end))
            wishes[place] = wishes.get(place, 0) + wish
        wishes.pop((first, first), None)
        self.assertEqual({stream[:2]: stream[2] for stream in plain(found.streams())}, wishes)
        for name in found.names():
            both = [name, second] if name == first else [name]
            self.assertEqual(plain(found.amount(name)), sum(plain(book.amount(one)) for one in both))
            self.assertEqual(plain(found.inlet(name)), sum(plain(book.inlet(one)) for one in both))

    def test_the_joined_account_does_not_fall_earlier_than_the_first_one_of_the_two(self):
        source = dice(105)
        falling = 0
        for _ in range(80):
            book = redrawn(source, any_book(source, 2, 5))
            first, second = source.sample(book.names(), 2)
            moment = fall_of(joined(book, first, second), first)
            moments = [fall_of(book, name) for name in [first, second]]
            if moment is not None:
                falling += 1
                self.assertTrue(any(one is not None and one <= moment for one in moments))
        self.assertGreater(falling, 30)

    def test_wrong_names(self):
        book = Book({"a": (1, 2), "b": (2, 3)}, [("a", "b", 1)])
        for value in no_accounts(book):
            self.assert_raises(NoAccount, value, joined, book, value, value)
            self.assert_raises(NoAccount, value, joined, book, value, "a")
            self.assert_raises(NoAccount, value, joined, book, value, "other")
            self.assert_raises(NoAccount, value, joined, book, "a", value)
        self.assert_raises(NoAccount, "a", joined, book, "a", "a")
        with self.assertRaises(NoAccount) as caught:
            joined(first="b", second="b", book=book)
        self.assertEqual(caught.exception.given, "b")


class DryTest(GivenCase):
    def test_greatest_inflow(self):
        book = Book({"a": (9, HALF), "b": (0, 1), "c": (0, 0)}, [("a", "b", 2), ("c", "b", 3), ("b", "c", 4), ("b", "", 9)])
        self.assertEqual([greatest_inflow(book, name).text() for name in "abc"], ["1/2", "6", "4"])
        self.assertIsInstance(greatest_inflow(Book({"a": (0, 0)}), "a"), Ratio)

    def test_stays_dry(self):
        book = Book({"a": (0, 1), "b": (0, 0)}, [("b", "a", 2), ("a", "", 3)])
        self.assertIs(stays_dry(book, "a"), True)
        self.assertIs(stays_dry(book.with_inlet("a", Ratio(BIG + 1, BIG)), "a"), False)
        self.assertIs(stays_dry(book.paid_in("a", Ratio(1, BIG)), "a"), False)
        self.assertIs(stays_dry(book, "b"), True)
        self.assertIs(stays_dry(Book({"a": (0, 0)}), "a"), True)
        self.assertIs(stays_dry(Book({"a": (0, 1)}), "a"), False)
        self.assertIs(stays_dry(Book({"a": (1, 0)}), "a"), False)

    def test_who_stays_dry_never_has_money(self):
        source = dice(106)
        for _ in range(80):
            book = any_book(source)
            for name in [name for name in book.names() if stays_dry(book, name)]:
                money = {**amounts_of(redrawn(source, book)), name: 0}
                found = with_money(book, money)
                self.assertTrue(all(later(found, days).amount(name) == 0 for days in moments_of(found, source)))

    def test_small_books(self):
        book = Book({"a": (0, 1), "b": (5, 0), "c": (7, 2)},
                    [("b", "a", 2), ("c", "a", 3), ("a", "b", 1), ("a", "c", 2), ("a", "", 3), ("b", "c", 4), ("c", "", 5)])
        lines = ["account b 5 1/6", "account c 7 7/3", "stream b - 1", "stream b c 14/3", "stream c - 13/2",
                 "stream c b 1/2"]
        self.assertEqual(taken_out(book, "a").text().split("\n"), lines)
        self.assertIsNone(taken_out(book, "b"))
        self.assertIsNone(taken_out(book.with_inlet("a", Ratio(BIG + 1, BIG)), "a"))
        self.assertEqual(taken_out(Book({"a": (0, 0), "b": (1, 1)}), "a"), Book({"b": (1, 1)}))
        self.assertEqual(taken_out(Book({"a": (0, 0)}), "a"), Book({}))

    def test_rings_through_an_account_that_stays_dry(self):
        ring = Book({"a": (0, 0), "b": (3, 1)}, [("a", "b", 2), ("b", "a", 2)])
        self.assertEqual(taken_out(ring, "a"), Book({"b": (3, 1)}))
        self.assertEqual(taken_out(ring.with_stream("a", "", 2), "a").text(), "account b 3 1\nstream b - 1")

    def test_the_others_have_the_same_amounts_at_all_moments(self):
        source = dice(107)
        taken = rings = 0
        for _ in range(150):
            book = some_book(source, source.randint(2, 6), 3, 6)
            name = source.choice(book.names())
            if source.random() < 0.6 and book.wish(name) != 0:
                book = book.drawn(name, book.amount(name)).with_stream(name, "", greatest_inflow(book, name) + HALF)
            found = taken_out(book, name)
            self.assertIs(found is None, not stays_dry(book, name))
            if found is not None:
                taken += 1
                ends = [end for start, end, _ in book.streams() if start == name]
                rings += any(end == name and start in ends for start, end, _ in book.streams())
                for _ in range(2):
                    money = {**amounts_of(redrawn(source, book)), name: 0}
                    self.assert_same_amounts(with_money(book, money), with_money(found, money), source)
        self.assertTrue(taken > 60 and rings > 30, (taken, rings))

    def assert_same_amounts(self, book, less, source):
        for days in moments_of(book, source):
            there, here = later(book, days), later(less, days)
            self.assertEqual({name: there.amount(name) for name in here.names()}, amounts_of(here))

    def test_thinned(self):
        source = dice(108)
        several = 0
        for _ in range(80):
            book = some_book(source, source.randint(1, 6), 3, 5)
            for name in book.names():
                if source.random() < 0.6:
                    book = book.drawn(name, book.amount(name))
            expected = book
            while any(stays_dry(expected, name) for name in expected.names()):
                name = [name for name in expected.names() if stays_dry(expected, name)][0]
                expected = taken_out(expected, name)
            found = thinned(book)
            self.assertEqual(found, expected)
            several += len(found) + 1 < len(book)
            self.assert_same_amounts(book, found, source)
        self.assertGreater(several, 15)

    def test_one_behind_the_other(self):
        book = Book({"a": (0, 1), "b": (0, 1)}, [("a", "b", 1), ("b", "a", 1), ("a", "", 1), ("b", "", 1)])
        self.assertEqual(thinned(book), Book({}))
        self.assertEqual(taken_out(book, "a").text(), "account b 0 3/2\nstream b - 3/2")

    def test_numbers_of_60_digits(self):
        source = dice(109)
        for whole in [True, False]:
            book = great_book(source, whole)
            book = book.with_stream("mill", "inn", BIG * FAR).with_stream("aa", "inn", BIG * FAR * FAR)
            for name in ["mill", "aa"]:
                book = book.drawn(name, book.amount(name))
            found = thinned(book)
            self.assertEqual(found.names(), [name for name in book.names() if name not in ("mill", "aa")])
            there, here = later(book, 3), later(found, 3)
            self.assertEqual({name: there.amount(name) for name in here.names()}, amounts_of(here))

    def test_no_account(self):
        book = Book({"a": (0, 1), "b": (2, 3)}, [("a", "b", 1)])
        for call in [greatest_inflow, stays_dry, taken_out]:
            self.assert_no_account(call, book)
            self.assert_no_account(call, Book({}))


class ArgumentTest(GivenCase):
    def test_by_name(self):
        one = Book({"ann": (0, 5), "bob": (0, 0)}, [("ann", "bob", 2)])
        other = one.with_inlet("ann", 1)
        self.assertEqual((act_alike(other=one, one=one), parting(other=one, one=one)), (True, None))
        amounts, days = parting(other=other, one=one)
        self.assertNotEqual(later(with_money(one, amounts), days), later(with_money(other, amounts), days))
        self.assertEqual(joined(second="bob", first="ann", book=one), Book({"ann": (0, 5)}))
        self.assertEqual((greatest_inflow(name="bob", book=one), stays_dry(name="ann", book=one)), (2, False))
        self.assertEqual(taken_out(name="ann", book=other), Book({"bob": (0, 1)}))
        self.assertEqual(thinned(book=other), Book({"bob": (0, 1)}))

    def test_books_never_change(self):
        one = Book({"ann": (0, 1), "bob": (0, 0)}, [("ann", "bob", 2)])
        other = one.with_inlet("ann", 3)
        texts = one.text(), other.text()
        act_alike(one, other), joined(one, "ann", "bob"), taken_out(one, "ann"), thinned(one)
        amounts, _ = parting(one, other)
        amounts.clear()
        self.assertEqual(len(parting(one, other)[0]), 2)
        self.assertEqual((one.text(), other.text()), texts)


class ExampleTest(GivenCase):
    def test_the_example_of_the_interface(self):
        one = Book({"ann": (0, 5), "bob": (0, 0)}, [("ann", "bob", 2)])
        other = Book({"ann": (9, 3), "bob": (0, 2)})
        self.assertEqual((act_alike(one, other), parting(one, other)), (True, None))
        self.assertEqual((act_alike(one, one.with_inlet("ann", 1)), act_alike(one, one.with_stream("bob", "", 1))),
                         (False, False))
        trio = Book({"ann": (0, 1), "bob": (0, 0), "cy": (0, 0)}, [("ann", "bob", 2), ("bob", "cy", 2), ("cy", "", 1)])
        self.assertEqual(taken_out(trio, "bob").text().split("\n")[2:], ["stream ann cy 2", "stream cy - 1"])
        self.assertEqual((joined(trio, "ann", "bob") == taken_out(trio, "bob"), taken_out(trio, "cy")), (True, None))
        seen = greatest_inflow(trio, "cy").text(), stays_dry(trio, "ann"), stays_dry(trio, "cy"), len(thinned(trio))
        self.assertEqual(seen, ("2", True, False, 0))
        self.assertRaises(UnlikeBooks, act_alike, one, trio)


if __name__ == "__main__":
    unittest.main()
