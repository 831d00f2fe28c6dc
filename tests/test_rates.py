"""Points 2, 3, 6, 7, 8, 18 and 19: the rates for given rich accounts, and tables."""

import math
import unittest
from fractions import Fraction
from itertools import product

from paystreams.books import Book
from paystreams.errors import BadTable, NoAccount
from paystreams.rates import feeds, fits, inflows, inflows_of, is_table, rates, short, stream_rates
from paystreams.ratios import Ratio
from tests.samples import (
    BIG, dice, great_book, model_fits, model_inflows, model_rates, plain, rich_of, ring_book, some_book,
    values_of_every_kind,
)

HALF = Ratio(1, 2)
FUNCTIONS = [rates, inflows, short, stream_rates]


def town():
    return Book({"mill": (6, 0), "inn": (0, HALF), "bank": (0, 1)},
                [("mill", "inn", 3), ("inn", "bank", 4), ("bank", "inn", 2)])


def shown(table):
    return {name: number.text() for name, number in table.items()}


def some_rich(source, book):
    """None, no accounts, all of them, or some of them in no order, perhaps one of them twice."""
    some = [name for name in book.names() if source.random() < 0.5]
    source.shuffle(some)
    return source.choice([None, [], book.names(), some, tuple(some), [*some, *some[:1]]])


def some_table(source, book):
    """A random table, near the rates for some rich accounts or far from them."""
    table = rates(book, some_rich(source, book))
    for name in table:
        if source.random() < 0.3:
            table[name] = book.wish(name) * Ratio(source.randint(0, 4), 4)
        elif table[name].bottom == 1:
            table[name] = source.choice([table[name], table[name].top])
    return table


class RatesCase(unittest.TestCase):
    def assert_no_account(self, value, call, *given):
        with self.assertRaises(NoAccount) as caught:
            call(*given)
        self.assertIs(caught.exception.given, value)

    def assert_table(self, found, book):
        """It is a dict of Ratios with all names in ascending order."""
        self.assertIs(type(found), dict)
        self.assertEqual(list(found), book.names())
        for number in found.values():
            self.assertIsInstance(number, Ratio)


class RatesTest(RatesCase):
    def test_no_rich_accounts_all_and_some(self):
        book = town()
        cases = [
            (None, ["2", "4", "3"]), (["mill"], ["2", "4", "3"]), ([], ["2", "5/2", "0"]),
            (["bank"], ["2", "5/2", "0"]),
            (["inn"], ["2", "4", "0"]), (["mill", "inn", "bank"], ["2", "4", "3"]),
        ]
        for rich, expected in cases:
            with self.subTest(rich=rich):
                self.assertEqual(shown(rates(book, rich)), dict(zip(book.names(), expected)))
        self.assertEqual(shown(inflows(book)), {"bank": "5", "inn": "11/2", "mill": "0"})
        self.assertEqual(shown(inflows(book, [])), {"bank": "7/2", "inn": "5/2", "mill": "0"})

    def test_accounts_with_an_amount_above_0_are_rich_by_default(self):
        book = Book({"a": (0, 0), "b": (Ratio(1, BIG), 0), "c": (BIG, 0), "d": (0, 5)},
                    [("a", "", 1), ("b", "", 1), ("c", "", 1), ("d", "", 1)])
        self.assertEqual(shown(rates(book)), {"a": "0", "b": "1", "c": "1", "d": "1"})
        self.assertEqual(short(book), ["a"])
        self.assertEqual(short(book, ["a"]), ["b", "c"])
        self.assertEqual(short(book, None), ["a"])
        self.assertEqual(short(book, []), ["a", "b", "c"])
        self.assertEqual(short(book, book.names()), [])

    def test_an_account_pays_the_lesser_one_of_wish_and_inflow(self):
        for inlet, expected in [(0, "0"), (HALF, "1/2"), (2, "2"), (3, "3"), (Ratio(7, 2), "3"), (BIG, "3")]:
            book = Book({"a": (0, inlet)}, [("a", "", 3)])
            self.assertEqual(rates(book)["a"].text(), expected)
            self.assertEqual(short(book), ["a"] if inlet in (0, HALF, 2) else [])

    def test_an_account_without_streams_pays_nothing_and_is_never_short(self):
        book = Book({"a": (0, 0), "b": (2, 3)})
        for rich in [None, [], ["a"], ["a", "b"]]:
            self.assertEqual(shown(rates(book, rich)), {"a": "0", "b": "0"})
            self.assertEqual(shown(inflows(book, rich)), {"a": "0", "b": "3"})
            self.assertEqual((short(book, rich), stream_rates(book, rich)), ([], []))

    def test_the_book_without_accounts(self):
        book = Book({})
        for rich in [None, [], ()]:
            self.assertEqual((rates(book, rich), inflows(book, rich), short(book, rich), stream_rates(book, rich)),
                             ({}, {}, [], []))

    def test_each_stream_gets_the_same_part_of_its_wish(self):
        book = Book({"b": (0, 3), "a": (0, 0)}, [("b", "a", 4), ("b", "", 2), ("a", "b", 1), ("a", "", Ratio(1, 3))])
        # b gets 3 and from a 1, a gets two thirds of that; so a pays its wish and b is short.
        found = stream_rates(book)
        self.assertEqual([(start, end, rate.text()) for start, end, rate in found],
                         [("a", "", "1/3"), ("a", "b", "1"), ("b", "", "4/3"), ("b", "a", "8/3")])
        self.assertEqual([type(item) for item in found], [tuple] * 4)

    def test_money_in_a_ring_goes_round_at_once(self):
        ring = [("a", "b", 2), ("b", "a", 2)]
        book = Book({"a": (0, 0), "b": (0, 0)}, ring)
        self.assertEqual((shown(rates(book)), short(book)), ({"a": "2", "b": "2"}, []))
        narrow = book.with_stream("b", "a", 1)
        self.assertEqual((shown(rates(narrow)), short(narrow)), ({"a": "1", "b": "1"}, ["a"]))
        leaking = book.with_stream("b", "", Ratio(1, BIG))
        self.assertEqual((shown(rates(leaking)), short(leaking)), ({"a": "0", "b": "0"}, ["a", "b"]))
        fed = leaking.with_inlet("b", Ratio(1, BIG))
        self.assertEqual(short(fed), [])
        half_fed = leaking.with_inlet("b", Ratio(1, 2 * BIG))
        self.assertEqual((shown(rates(half_fed))["a"], short(half_fed)), ("1", ["a", "b"]))

    def test_a_ring_that_nothing_leaves_behind_other_accounts(self):
        streams = [("a", "b", 3), ("b", "c", 2), ("c", "d", 4), ("d", "b", 5), ("a", "", 1)]
        book = Book({name: (0, 0) for name in "abcd"}, streams)
        self.assertEqual(shown(rates(book)), {"a": "0", "b": "2", "c": "2", "d": "2"})
        self.assertEqual(short(book), ["a", "c", "d"])
        self.assertEqual(shown(inflows(book, ["a"])), {"a": "0", "b": "5", "c": "2", "d": "2"})
        self.assertEqual(shown(inflows(book, ["c"])), {"a": "0", "b": "4", "c": "2", "d": "4"})

    def test_two_rings_with_one_account_in_common(self):
        book = Book({name: (0, 0) for name in "abc"}, [("a", "b", 2), ("b", "a", 3), ("b", "c", 1), ("c", "b", 1)])
        self.assertEqual(shown(rates(book)), {"a": "2", "b": "8/3", "c": "2/3"})
        self.assertEqual(short(book), ["b", "c"])

    def test_an_account_is_short_only_because_another_one_is(self):
        names = "abcdefg"
        chain = Book({name: (0, 0) for name in names}, [(start, end, 2) for start, end in zip(names, [*names[1:], ""])])
        for place in range(len(names)):
            self.assertEqual(short(chain, [names[place]]), list(names[:place]))
            self.assertEqual(short(chain.with_inlet(names[place], 2), []), list(names[:place]))
        self.assertEqual(short(chain), list(names))

    def test_random_books(self):
        source = dice(40)
        for _ in range(250):
            book = some_book(source, source.randint(0, 4), source.choice([1, 2, 4, BIG]), source.choice([3, 5, 8]))
            rich = some_rich(source, book)
            self.assert_as_the_model(book, rich, rich_of(book) if rich is None else list(rich))

    def test_rings_without_a_way_out(self):
        source = dice(41)
        for _ in range(150):
            book = ring_book(source, source.randint(2, 4))
            rich = some_rich(source, book)
            self.assert_as_the_model(book, rich, rich_of(book) if rich is None else list(rich))

    def assert_as_the_model(self, book, rich, names):
        with self.subTest(book=book.text(), rich=rich):
            expected = model_rates(book, names)
            wishes = {name: plain(book.wish(name)) for name in book.names()}
            self.assertEqual(plain(rates(book, rich)), expected)
            self.assertEqual(plain(inflows(book, rich)), model_inflows(book, expected))
            self.assertEqual(short(book, rich), [name for name in book.names() if expected[name] < wishes[name]])
            flows = [(start, end, expected[start] * plain(wish) / wishes[start]) for start, end, wish in book.streams()]
            self.assertEqual(plain(stream_rates(book, rich)), flows)
            self.assert_table(rates(book, rich), book)
            self.assert_table(inflows(book, rich), book)

    def test_no_table_that_is_reached_by_rounds_falls_below_the_rates(self):
        source = dice(42)
        for _ in range(40):
            book = some_book(source, source.randint(1, 4), 3)
            found = plain(rates(book, []))
            table = {name: plain(book.wish(name)) for name in found}
            for _ in range(40):
                coming = model_inflows(book, table)
                table = {name: min(plain(book.wish(name)), coming[name]) for name in table}
                self.assertTrue(all(found[name] <= table[name] for name in table))
                # Rounded up, so that the numbers stay short.
                table = {name: Fraction(math.ceil(rate * 10 ** 9), 10 ** 9) for name, rate in table.items()}

    def test_7_accounts_and_36_streams_with_numbers_of_60_digits(self):
        source = dice(43)
        for whole in [True, False]:
            book = great_book(source, whole)
            for rich in [None, [], book.names()[:3], book.names()]:
                found = rates(book, rich)
                self.assertTrue(model_fits(book, plain(found), rich_of(book) if rich is None else rich))
                self.assertTrue(fits(book, found, rich))
                self.assertEqual(plain(inflows(book, rich)), model_inflows(book, plain(found)))
                self.assertEqual(short(book, rich), [name for name in found if found[name] < book.wish(name)])
            self.assertEqual(short(book, []), book.names())
            self.assertEqual(shown(rates(book, book.names())), {name: book.wish(name).text() for name in book.names()})


class ArgumentTest(RatesCase):
    def test_a_name_that_is_no_account(self):
        book = town()
        wrong = [value for value in values_of_every_kind() if value != "mill"]
        for value in [*wrong, "mil", "Mill", "", ["mill"], ("mill",)]:
            for call in FUNCTIONS:
                with self.subTest(value=value, call=call):
                    self.assert_no_account(value, call, book, [value])
                    self.assert_no_account(value, call, book, ["inn", value, "barn", None])
                    self.assert_no_account(value, call, book, ("inn", "bank", "mill", "inn", value))
            self.assert_no_account(value, fits, book, {"bank": 0, "inn": 0, "mill": 0}, ["mill", value, "barn"])
        self.assert_no_account("a", rates, Book({}), ["a"])

    def test_by_name_and_as_a_tuple(self):
        book = town()
        for call in FUNCTIONS:
            self.assertEqual(call(rich=["inn"], book=book), call(book, ("inn",)))
            self.assertEqual(call(book=book, rich=None), call(book, ["mill"]))
            self.assertEqual(call(book, ["inn", "mill", "inn"]), call(book, ("mill", "inn")))
        table = {"bank": 2, "inn": 4, "mill": 3}
        self.assertTrue(fits(rich=("mill",), table=table, book=book))
        self.assertTrue(is_table(table=table, book=book) and feeds(table={"bank": 0, "inn": 0, "mill": 0}, book=book))
        self.assertEqual(shown(inflows_of(table=table, book=book)), {"bank": "5", "inn": "11/2", "mill": "0"})

    def test_nothing_that_was_passed_in_is_changed(self):
        book, rich = town(), ["mill", "inn", "mill"]
        table = {"mill": 3, "bank": Ratio(2), "inn": 4}
        text = book.text()
        for call in FUNCTIONS:
            call(book, rich)
        fits(book, table, rich), is_table(book, table), inflows_of(book, table), feeds(book, table)
        self.assertEqual((book.text(), rich), (text, ["mill", "inn", "mill"]))
        self.assertEqual(list(table.items()), [("mill", 3), ("bank", Ratio(2)), ("inn", 4)])
        self.assertIs(type(table["mill"]), int)

    def test_what_is_returned_is_new(self):
        book, table = town(), {"mill": 3, "bank": 2, "inn": 4}
        for call in [*[lambda call=call: call(book, ["inn"]) for call in FUNCTIONS], lambda: inflows_of(book, table)]:
            kept = plain(call())
            call().clear()
            self.assertEqual(plain(call()), kept)
        rich = ["inn"]
        rates(book, rich)["inn"] = 9
        self.assertEqual(rates(book, rich)["inn"], 4)


class TableTest(RatesCase):
    no_tables = [
        *values_of_every_kind(), {"bank": 0, "inn": 0}, {"bank": 0, "inn": 0, "mill": 0, "barn": 0},
        {"bank": 0, "inn": 0, "barn": 0}, {"bank": 0, "inn": 0, "mill": 0, "": 0},
        {"bank": 0, "inn": 0, "mill": 0, None: 0},
        {"bank": 0, "inn": 0, 1: 0}, [("bank", 0), ("inn", 0), ("mill", 0)], ["bank", "inn", "mill"], "bank",
        {"bank": Ratio(-1, BIG), "inn": 0, "mill": 0}, {"bank": 0, "inn": -1, "mill": 0},
        {"bank": 3, "inn": 0, "mill": 0},
        {"bank": 0, "inn": Ratio(4 * BIG + 1, BIG), "mill": 0}, {"bank": 0, "inn": 0, "mill": BIG},
        *[{"bank": 0, "inn": 0, "mill": value} for value in values_of_every_kind() if value not in (0, 1)],
        *[{"bank": value, "inn": 0, "mill": 0} for value in [True, False, None, "1", 0.0, [1]]],
    ]

    def test_tables(self):
        book = town()
        for rich in [None, [], ["inn"], book.names()]:
            self.assertIs(is_table(book, rates(book, rich)), True)
        for table in [{"mill": 0, "inn": 0, "bank": 0}, {"bank": 2, "mill": Ratio(3), "inn": Ratio(4)},
                      {"inn": HALF, "bank": Ratio(1, BIG), "mill": 1}]:
            self.assertIs(is_table(book, table), True)
        self.assertIs(is_table(Book({}), {}), True)
        self.assertIs(is_table(Book({"a": (5, 5)}), {"a": 0}), True)
        self.assertIs(is_table(Book({"a": (5, 5)}), {"a": 1}), False)
        self.assertIs(is_table(Book({"a": (5, 5)}), {}), False)
        self.assertIs(is_table(Book({}), {"a": 0}), False)
        self.assertIs(is_table(Book({}), []), False)

    def test_values_that_are_no_tables(self):
        book = town()
        for value in self.no_tables:
            with self.subTest(value=value):
                self.assertIs(is_table(book, value), False)
                for call in [fits, inflows_of, feeds]:
                    self.assertRaises(BadTable, call, book, value)
                self.assertRaises(BadTable, fits, book, value, ["mill"])
                self.assert_no_account("barn", fits, book, value, ["mill", "barn"])

    def test_fits(self):
        book = town()
        self.assertIs(fits(book, {"bank": 2, "inn": 4, "mill": 3}), True)
        self.assertIs(fits(book, {"bank": 2, "inn": 4, "mill": 3}, ["mill"]), True)
        self.assertIs(fits(book, {"bank": 2, "inn": 4, "mill": 3}, []), False)
        self.assertIs(fits(book, {"bank": 2, "inn": Ratio(5, 2), "mill": 0}, []), True)
        self.assertIs(fits(book, {"bank": 2, "inn": 2, "mill": 0}, []), False)
        self.assertIs(fits(book, {"bank": 2, "inn": Ratio(5, 2), "mill": 0}, ["inn"]), False)
        self.assertIs(fits(book, {"bank": 2, "inn": 4, "mill": 0}, ["inn"]), True)
        self.assertIs(fits(book, {"bank": 1, "inn": 4, "mill": 0}, ["inn"]), False)
        self.assertIs(fits(Book({}), {}), True)

    def test_more_than_one_table_may_fit(self):
        ring = Book({"a": (0, 0), "b": (0, 0)}, [("a", "b", 2), ("b", "a", 2)])
        for rate in [0, 1, Ratio(3, 2), 2]:
            self.assertIs(fits(ring, {"a": rate, "b": rate}), True)
            self.assertIs(feeds(ring, {"a": rate, "b": rate}), True)
        self.assertEqual(shown(rates(ring)), {"a": "2", "b": "2"})
        self.assertIs(fits(ring, {"a": 1, "b": 1}, ["a"]), False)
        self.assertIs(fits(ring, {"a": 1, "b": 2}), False)

    def test_feeds(self):
        book = town()
        cases = [({"bank": 1, "inn": 1, "mill": 0}, True), ({"bank": 0, "inn": 0, "mill": 0}, True),
                 ({"bank": 2, "inn": Ratio(5, 2), "mill": 0}, True),
                 ({"bank": 2, "inn": Ratio(13, 5), "mill": 0}, False),
                 ({"bank": 0, "inn": 0, "mill": Ratio(1, BIG)}, False),
                 ({"bank": 1, "inn": 0, "mill": 0}, True), ({"bank": Ratio(6, 5), "inn": 0, "mill": 0}, False),
                 ({"bank": 0, "inn": HALF, "mill": 0}, True)]
        for table, expected in cases:
            self.assertIs(feeds(book, table), expected)
        self.assertIs(feeds(Book({}), {}), True)

    def test_random_tables(self):
        source = dice(44)
        fitting = feeding = 0
        for _ in range(400):
            book = some_book(source, source.randint(0, 4), 3, 6)
            rich, table = some_rich(source, book), some_table(source, book)
            fractions = {name: Fraction(plain(rate)) for name, rate in table.items()}
            coming = model_inflows(book, fractions)
            with self.subTest(book=book.text(), rich=rich, table=fractions):
                self.assertIs(is_table(book, table), True)
                self.assertIs(fits(book, table, rich),
                              model_fits(book, fractions, rich_of(book) if rich is None else rich))
                self.assertIs(feeds(book, table), all(fractions[name] <= coming[name] for name in coming))
                self.assertEqual(plain(inflows_of(book, table)), coming)
                self.assert_table(inflows_of(book, table), book)
            fitting += fits(book, table, rich)
            feeding += feeds(book, table)
        self.assertTrue(50 < fitting < 350 and 50 < feeding < 350)

    def test_a_table_that_feeds_itself_is_never_above_the_rates(self):
        source = dice(45)
        several = 0
        for _ in range(40):
            book = some_book(source, 3, 2, 7)
            steps = [[book.wish(name) * Ratio(part, 3) for part in range(4)] for name in book.names()]
            found = [rates(book, rich) for rich in [None, [], book.names()[:1], book.names()[1:], book.names()]]
            for numbers in product(*steps):
                table = dict(zip(book.names(), numbers))
                if feeds(book, table):
                    several += 1
                    self.assertTrue(all(table[name] <= most[name] for most in found for name in table))
        self.assertGreater(several, 100)


class ExampleTest(RatesCase):
    def test_the_example_of_the_interface(self):
        book = Book({"mill": (6, 0), "inn": (0, Ratio(1, 2)), "bank": (0, 1)},
                    [("mill", "inn", 3), ("inn", "bank", 4), ("bank", "inn", 2)])
        seen = [(name, rate.text()) for name, rate in rates(book).items()], short(book), short(book, [])
        self.assertEqual(seen, ([("bank", "2"), ("inn", "4"), ("mill", "3")], [], ["inn", "mill"]))
        self.assertEqual([(name, rate.text()) for name, rate in rates(book, []).items()],
                         [("bank", "2"), ("inn", "5/2"), ("mill", "0")])
        self.assertEqual((inflows(book)["inn"].text(), inflows(book, rich=[])["inn"].text()), ("11/2", "5/2"))
        self.assertIs(fits(book, {"bank": 2, "inn": Ratio(5, 2), "mill": 0}, []), True)
        self.assertIs(feeds(book, {"bank": 1, "inn": 1, "mill": 0}), True)
        self.assertIs(is_table(book, {"bank": 3}), False)
        self.assert_no_account("barn", rates, book, ["mill", "barn"])


if __name__ == "__main__":
    unittest.main()
