"""Points 3, 5, 6, 7, 8 and 23 to 26: what becomes of a book in the end, and papers that show it."""

import unittest

from paystreams.books import Book
from paystreams.course import fall_of, falls, later, rates_at, settled
from paystreams.ends import (
    end_rates, end_slopes, fallen, feeding_paper, gain_of, latest_fall, leaving, never_falls, shows_falling,
    shows_holding, weights_paper, worth_of,
)
from paystreams.errors import BadTable
from paystreams.rates import feeds, is_table
from paystreams.ratios import Ratio, as_ratio
from tests.samples import (
    BIG, FAR, NO_UNSIGNED, GivenCase, any_book, dice, great_book, model_inflows, model_rates, plain, redrawn, ring_book,
    shown, some_part, values_of_every_kind,
)

HALF = Ratio(1, 2)


def inn_book():
    return Book({"mill": (6, 0), "inn": (0, HALF)}, [("mill", "inn", 3), ("inn", "", 2)])


def model_shows_falling(book, name, paper):
    """Whether a dict of numbers is a weights paper, as point 25 tells it."""
    weights = plain(paper)
    if name not in weights or any(key not in book.names() or weights[key] < 0 for key in weights):
        return False
    gain = 0
    for key in weights:
        left = weights[key]
        coming = plain(book.inlet(key))
        for start, end, wish in book.streams():
            if start == key and end in weights:
                left -= weights[end] * plain(wish) / plain(book.wish(key))
            if end == key and start not in weights:
                coming += plain(wish)
        if left < (1 if key == name else 0):
            return False
        gain += weights[key] * coming
    return gain < plain(book.wish(name))


class EndTest(GivenCase):
    def test_one_book_with_unlike_amounts(self):
        for amount in [0, 1, 6, BIG, Ratio(1, BIG)]:
            book = Book({"mill": (amount, 0), "inn": (amount, HALF)}, inn_book().streams())
            self.assertEqual(shown(end_rates(book)), {"inn": "1/2", "mill": "0"})
            self.assertEqual(fallen(book), ["inn", "mill"])
            self.assertEqual(shown(end_slopes(book)), {"inn": "0", "mill": "0"})
            self.assertEqual(leaving(book).text(), "1/2")
            self.assertIs(never_falls(book, "inn"), False)
        fed = inn_book().with_inlet("inn", 3)
        self.assertEqual((fallen(fed), shown(end_rates(fed))), (["mill"], {"inn": "2", "mill": "0"}))
        self.assertEqual((shown(end_slopes(fed)), leaving(fed).text()), ({"inn": "1", "mill": "0"}, "2"))
        self.assertIs(never_falls(fed, "inn"), True)

    def test_an_inflow_of_just_the_wish_is_enough(self):
        book = inn_book().with_inlet("inn", 2)
        self.assertEqual((fallen(book), never_falls(book, "inn")), (["mill"], True))
        less = inn_book().with_inlet("inn", Ratio(2 * BIG - 1, BIG))
        self.assertEqual((fallen(less), never_falls(less, "inn")), (["inn", "mill"], False))

    def test_accounts_without_streams_and_books_without_accounts(self):
        book = Book({"a": (5, 0), "b": (0, 7)})
        self.assertEqual((fallen(book), shown(end_rates(book)), leaving(book)), ([], {"a": "0", "b": "0"}, 0))
        self.assertEqual(shown(end_slopes(book)), {"a": "0", "b": "7"})
        none = Book({})
        self.assertEqual((fallen(none), end_rates(none), end_slopes(none), leaving(none)), ([], {}, {}, 0))

    def test_rings_that_nothing_leaves(self):
        ring = Book({"a": (3, 0), "b": (0, 0), "c": (0, 0)}, [("a", "b", 2), ("b", "a", 1), ("c", "a", 5)])
        self.assertEqual(shown(end_rates(ring)), {"a": "1", "b": "1", "c": "0"})
        self.assertEqual((fallen(ring), leaving(ring)), (["a", "c"], 0))
        leaking = ring.with_stream("b", "", 1)
        self.assertEqual((shown(end_rates(leaking)), fallen(leaking)), ({"a": "0", "b": "0", "c": "0"}, ["a", "b", "c"]))

    def test_random_books_with_unlike_amounts(self):
        source = dice(70)
        for _ in range(70):
            book = any_book(source)
            first = book
            with self.subTest(book=book.text()):
                if len(book) <= 4:
                    self.assertEqual(plain(end_rates(book)), model_rates(book, []))
                for _ in range(3):
                    self.assert_the_end(book, first)
                    book = redrawn(source, book, source.choice([2, 30]))

    def assert_the_end(self, book, first):
        rates, slopes = end_rates(book), end_slopes(book)
        self.assertEqual((rates, slopes, fallen(book)), (end_rates(first), end_slopes(first), fallen(first)))
        self.assertEqual((list(rates), list(slopes)), (book.names(), book.names()))
        self.assertEqual(leaving(book), leaving(first))
        self.assertEqual(sorted(name for _, names in falls(book) for name in names), fallen(book))
        for days in [settled(book), settled(book) + FAR]:
            self.assertEqual(rates_at(book, days), rates)
            there, next_day = later(book, days), later(book, days + 1)
            for name in book.names():
                self.assertEqual(next_day.amount(name) - there.amount(name), slopes[name])
                self.assertIs(never_falls(book, name), fall_of(book, name) is None)
        coming = model_inflows(book, plain(rates))
        self.assertEqual(plain(slopes), {name: coming[name] - plain(rates[name]) for name in coming})

    def test_what_comes_in_goes_to_the_accounts_or_leaves(self):
        source = dice(71)
        for _ in range(150):
            book = any_book(source)
            came = sum(plain(book.inlet(name)) for name in book.names())
            self.assertEqual(sum(plain(end_slopes(book)).values()) + plain(leaving(book)), came)

    def test_no_account(self):
        self.assert_no_account(never_falls, inn_book())
        self.assert_no_account(never_falls, Book({}))


class FeedingTest(GivenCase):
    def test_near_a_feeding_paper(self):
        fed = inn_book().with_inlet("inn", 3)
        cases = [({"inn": 2, "mill": 0}, True), ({"mill": Ratio(0), "inn": Ratio(2)}, True),
                 ({"inn": Ratio(2 * BIG - 1, BIG), "mill": 0}, False), ({"inn": 2, "mill": Ratio(1, BIG)}, False),
                 ({"inn": 2}, False), ({"inn": 2, "mill": 0, "barn": 0}, False), ({"inn": 3, "mill": 0}, False),
                 ({"inn": 2, "mill": -1}, False), ({"inn": 2, "barn": 0}, False), ({"inn": 2, "mill": False}, False),
                 ({"inn": 2, "mill": None}, False), ({"inn": 2, None: 0}, False), ([("inn", 2), ("mill", 0)], False)]
        for paper, expected in cases:
            with self.subTest(paper=paper):
                self.assertIs(shows_holding(fed, "inn", paper), expected)
        self.assertIs(shows_holding(fed, "mill", {"inn": 2, "mill": 0}), False)
        self.assertIs(shows_holding(inn_book().with_inlet("inn", 2), "inn", {"inn": 2, "mill": 0}), True)
        self.assertIs(shows_holding(inn_book().with_inlet("inn", 1), "inn", {"inn": 2, "mill": 0}), False)

    def test_any_value(self):
        for value in [*values_of_every_kind(), b"", 0.5]:
            for name in ["inn", "mill"]:
                self.assertIs(shows_holding(inn_book(), name, value), False)
                self.assertIs(shows_holding(inn_book(), name, {"inn": value, "mill": value}), False)
        self.assertIs(shows_holding(Book({"a": (1, 1)}), "a", {"a": 0}), True)
        self.assertIs(shows_holding(Book({"a": (1, 1)}), "a", {}), False)

    def test_a_lesser_table_that_feeds_itself_shows_it_too(self):
        book = Book({"a": (0, 1), "b": (0, 5), "c": (0, 9)}, [("a", "", 1), ("b", "a", 2), ("c", "b", 3)])
        self.assertEqual(shown(feeding_paper(book, "a")), {"a": "1", "b": "2", "c": "3"})
        for rates in [{"a": 1, "b": 0, "c": 0}, {"a": 1, "b": Ratio(1, 3), "c": 2}]:
            self.assertIs(shows_holding(book, "a", rates), True)
            self.assertIs(shows_holding(book, "b", rates), False)

    def test_no_account(self):
        self.assert_no_account(feeding_paper, inn_book())
        self.assert_no_account(shows_holding, inn_book(), {"inn": 2, "mill": 0})
        self.assert_no_account(shows_holding, inn_book(), None)


class WeightsTest(GivenCase):
    def test_near_a_weights_paper(self):
        book = inn_book()
        cases = [({"inn": 1, "mill": 1}, True), ({"mill": Ratio(1), "inn": Ratio(1)}, True),
                 ({"inn": 1, "mill": BIG}, True), ({"inn": 1, "mill": Ratio(BIG - 1, BIG)}, False),
                 ({"inn": Ratio(BIG - 1, BIG), "mill": 1}, False), ({"inn": 2, "mill": 2}, True),
                 ({"inn": 4, "mill": 4}, False), ({"inn": Ratio(4 * BIG - 1, BIG), "mill": 4}, True),
                 ({"inn": 1}, False), ({"mill": 1}, False), ({}, False), ({"inn": 1, "mill": 1, "barn": 0}, False),
                 ({"inn": 1, "mill": 1, None: 0}, False), ({"inn": 1, "mill": 1, ("x", 1): 0}, False),
                 ({"inn": 1, "mill": -1}, False), ({"inn": True, "mill": 1}, False), ({"inn": 1, "mill": True}, False),
                 ({"inn": 1, "mill": "1"}, False), ({"inn": 1, "mill": [1]}, False), ([("inn", 1), ("mill", 1)], False)]
        for paper, expected in cases:
            with self.subTest(paper=paper):
                self.assertIs(shows_falling(book, "inn", paper), expected)
        self.assertIs(shows_falling(book, "mill", {"mill": 1}), True)
        self.assertIs(shows_falling(book, "mill", {"mill": 1, "inn": 0}), True)
        self.assertIs(shows_falling(book, "mill", {"mill": Ratio(BIG - 1, BIG)}), False)

    def test_the_weight_of_an_account_without_streams_stays_as_a_whole(self):
        book = Book({"a": (1, 0), "b": (0, 0)}, [("a", "b", 1)])
        self.assertIs(shows_falling(book, "a", {"a": 1}), True)
        self.assertIs(shows_falling(book, "a", {"a": 1, "b": 0}), True)
        self.assertIs(shows_falling(book, "a", {"a": 2, "b": 1}), True)
        self.assertIs(shows_falling(book, "a", {"a": Ratio(3, 2), "b": 1}), False)
        self.assertIs(shows_falling(book, "b", {"b": 1, "a": 1}), False)
        self.assertIs(shows_falling(book, "a", {"a": 1, "b": Ratio(-1, 2)}), False)

    def test_parts_of_the_payments(self):
        book = Book({"a": (0, 0), "b": (0, 0)}, [("a", "b", 1), ("a", "", 2), ("b", "", 1)])
        for weight, expected in [(Ratio(1, 3), True), (Ratio(BIG - 1, 3 * BIG), False), (1, True)]:
            self.assertIs(shows_falling(book, "b", {"a": weight, "b": 1}), expected)

    def test_the_gain_just_at_the_wish(self):
        for inlet, expected in [(2, False), (Ratio(2 * BIG - 1, BIG), True), (3, False)]:
            book = inn_book().with_inlet("inn", inlet)
            self.assertIs(shows_falling(book, "inn", {"inn": 1, "mill": 1}), expected)
            self.assertIs(weights_paper(book, "inn") is not None, expected)

    def test_any_value(self):
        for value in [*values_of_every_kind(), b"", 0.5, {None: 1}, {1: 1}, {("inn",): 1}]:
            self.assertIs(shows_falling(inn_book(), "inn", value), False)
        for value in NO_UNSIGNED:
            self.assertIs(shows_falling(inn_book(), "inn", {"inn": 1, "mill": value}), False)
            self.assertIs(shows_falling(inn_book(), "inn", {"inn": value, "mill": 1}), False)

    def test_no_account(self):
        self.assert_no_account(weights_paper, inn_book())
        self.assert_no_account(shows_falling, inn_book(), {"inn": 1, "mill": 1})
        self.assert_no_account(shows_falling, inn_book(), None)
        self.assert_no_account(latest_fall, inn_book(), {"inn": 1, "mill": 1})
        self.assert_no_account(latest_fall, inn_book(), None)

    def test_gain_and_worth(self):
        book = Book({"a": (2, 1), "b": (5, HALF), "c": (7, 3)}, [("a", "b", 1), ("c", "a", 2), ("c", "b", 4), ("b", "", 99)])
        paper = {"a": Ratio(3, 2), "b": 1}
        self.assertEqual((gain_of(book, paper).text(), worth_of(book, paper).text()), ("9", "8"))
        self.assertEqual(latest_fall(book, "b", paper).text(), "4/45")
        self.assertEqual((gain_of(book, {"b": 1}).text(), worth_of(book, {"b": 1}).text()), ("11/2", "5"))

    def test_no_latest_fall_without_a_weights_paper(self):
        for value in [*values_of_every_kind(), {"inn": 1}, {"inn": 1, "mill": 1, "barn": 1}, {"inn": 1, "mill": True}]:
            self.assertRaises(BadTable, latest_fall, inn_book(), "inn", value)
        self.assertRaises(BadTable, latest_fall, inn_book().with_inlet("inn", 2), "inn", {"inn": 1, "mill": 1})


class PaperTest(GivenCase):
    def test_just_one_of_two_papers(self):
        source = dice(72)
        for _ in range(120):
            book = any_book(source)
            for name in book.names():
                with self.subTest(book=book.text(), name=name):
                    feeding, weights = feeding_paper(book, name), weights_paper(book, name)
                    self.assertEqual((feeding is None, weights is None), (not never_falls(book, name),
                                                                          never_falls(book, name)))
                    if feeding is None:
                        self.assert_weights(book, name, weights)
                    else:
                        self.assertTrue(is_table(book, feeding) and feeds(book, feeding))
                        self.assertEqual(feeding[name], book.wish(name))
                        self.assertIs(shows_holding(book, name, feeding), True)

    def assert_weights(self, book, name, weights):
        self.assertIs(type(weights), dict)
        self.assertTrue(all(isinstance(weight, Ratio) for weight in weights.values()))
        self.assertIs(shows_falling(book, name, weights), True)
        self.assertTrue(model_shows_falling(book, name, weights))
        self.assertTrue(gain_of(book, weights) < book.wish(name))

    def test_nothing_shows_that_an_account_falls_that_never_does_nor_the_other_way_round(self):
        source = dice(73)
        holding = falling = 0
        for _ in range(500):
            book = any_book(source, 1, 3)
            name = source.choice(book.names())
            rates = {other: min(book.wish(other) * Ratio(source.randint(0, 3), 3), end_rates(book)[other], key=plain)
                     for other in book.names()}
            weights = {other: some_part(source, 3) for other in book.names() if source.random() < 0.7}
            if shows_holding(book, name, rates):
                holding += 1
                self.assertIs(never_falls(book, name), True)
            if shows_falling(book, name, weights):
                falling += 1
                self.assertIs(never_falls(book, name), False)
        self.assertTrue(holding > 50 and falling > 20)

    def test_papers_near_a_weights_paper(self):
        source = dice(74)
        seen = {True: 0, False: 0}
        for _ in range(300):
            book = any_book(source)
            name = source.choice(book.names())
            paper = weights_paper(book, name)
            if paper is None:
                continue
            key = source.choice(list(paper))
            change = source.choice(["more", "less", "out", "in", "other", "same"])
            if change == "more":
                paper[key] = paper[key] + some_part(source, 2, 1)
            elif change == "less":
                paper[key] = paper[key] - Ratio(1, source.choice([1, 2, 3, BIG]))
            elif change == "out":
                del paper[key]
            elif change == "in":
                paper[source.choice([*book.names(), "barn"])] = some_part(source, 2)
            elif change == "other":
                name = source.choice(book.names())
            with self.subTest(book=book.text(), name=name, paper=shown(paper)):
                expected = model_shows_falling(book, name, paper)
                self.assertIs(shows_falling(book, name, paper), expected)
                seen[expected] += 1
        self.assertTrue(min(seen.values()) > 40, seen)

    def test_nobody_falls_later_than_the_paper_tells(self):
        source = dice(75)
        for _ in range(80):
            book = any_book(source)
            for name in fallen(book):
                paper = weights_paper(book, name)
                for _ in range(3):
                    book = redrawn(source, book, source.choice([3, 50]))
                    latest = latest_fall(book, name, paper)
                    self.assertIsInstance(latest, Ratio)
                    self.assertTrue(fall_of(book, name) <= latest)
                    gap = book.wish(name) - gain_of(book, paper)
                    self.assertEqual(latest * gap, worth_of(book, paper))
                    expected = sum(plain(book.amount(key)) * plain(paper[key]) for key in paper)
                    self.assertEqual(plain(worth_of(book, paper)), expected)

    def test_the_worth_gets_less_each_day(self):
        source = dice(76)
        for _ in range(60):
            book = any_book(source)
            for name in fallen(book):
                paper = weights_paper(book, name)
                gap = book.wish(name) - gain_of(book, paper)
                moment = fall_of(book, name)
                for days in [moment * Ratio(1, 3), moment * HALF, moment]:
                    there = later(book, days)
                    self.assertTrue(worth_of(there, paper) <= worth_of(book, paper) - gap * days)
                    self.assertTrue(0 <= plain(worth_of(there, paper)))


class ArgumentTest(GivenCase):
    def test_by_name(self):
        book = inn_book()
        paper = weights_paper(name="inn", book=book)
        self.assertEqual(shown(end_rates(book=book)), {"inn": "1/2", "mill": "0"})
        self.assertEqual(shown(end_slopes(book=book)), {"inn": "0", "mill": "0"})
        self.assertEqual((fallen(book=book), leaving(book=book)), (["inn", "mill"], HALF))
        self.assertIs(never_falls(name="inn", book=book), False)
        self.assertIsNone(feeding_paper(name="inn", book=book))
        self.assertIs(shows_holding(paper=paper, name="inn", book=book), False)
        self.assertIs(shows_falling(paper=paper, name="inn", book=book), True)
        self.assertEqual((gain_of(paper=paper, book=book), worth_of(paper=paper, book=book)), (HALF, 6))
        self.assertEqual(latest_fall(paper=paper, name="inn", book=book), 4)

    def test_numbers_are_ratios(self):
        book = inn_book()
        whole = {"inn": 1, "mill": 1}
        for number in [*end_rates(book).values(), *end_slopes(book).values(), leaving(book), leaving(Book({})),
                       gain_of(book, whole), worth_of(book, whole), latest_fall(book, "inn", whole)]:
            self.assertIsInstance(number, Ratio)

    def test_nothing_that_was_passed_in_is_changed_and_what_is_returned_is_new(self):
        book = inn_book().with_inlet("inn", 3)
        text, paper = book.text(), {"mill": 1}
        for call in [end_rates, end_slopes, fallen, lambda book: feeding_paper(book, "inn"),
                     lambda book: weights_paper(book, "mill")]:
            kept = shown(call(book))
            call(book).clear()
            self.assertEqual(shown(call(book)), kept)
        shows_falling(book, "mill", paper), gain_of(book, paper), worth_of(book, paper), latest_fall(book, "mill", paper)
        shows_holding(book, "mill", paper)
        self.assertEqual((book.text(), list(paper.items())), (text, [("mill", 1)]))
        self.assertIs(type(paper["mill"]), int)


class SizeTest(GivenCase):
    def test_7_accounts_and_36_streams_with_numbers_of_60_digits(self):
        source = dice(77)
        for whole in [True, True, False]:
            book = great_book(source, whole)
            self.assertEqual(fallen(book), book.names())
            for name in book.names()[:7 if whole else 2]:
                paper = weights_paper(book, name)
                self.assertIsNone(feeding_paper(book, name))
                self.assertIs(shows_falling(book, name, paper), True)
                self.assertTrue(model_shows_falling(book, name, paper))
                self.assertTrue(fall_of(book, name) <= latest_fall(book, name, paper))
            came = sum(plain(book.inlet(name)) for name in book.names())
            self.assertEqual(sum(plain(end_slopes(book)).values()) + plain(leaving(book)), came)
            fed = book.with_inlet("mill", as_ratio(BIG) * BIG)
            paper = feeding_paper(fed, "mill")
            self.assertIs(shows_holding(fed, "mill", paper), True)
            paper["mill"] = paper["mill"] - Ratio(1, BIG)
            self.assertIs(shows_holding(fed, "mill", paper), False)

    def test_a_ring_of_7_accounts(self):
        source = dice(78)
        for _ in range(20):
            book = ring_book(source, 7, BIG)
            for name in book.names():
                papers = feeding_paper(book, name), weights_paper(book, name)
                self.assertEqual(sum(paper is None for paper in papers), 1)
                self.assertIs(shows_holding(book, name, papers[0]), papers[0] is not None)
                self.assertIs(shows_falling(book, name, papers[1]), papers[1] is not None)


class ExampleTest(GivenCase):
    def test_the_example_of_the_interface(self):
        book = Book({"mill": (6, 0), "inn": (0, Ratio(1, 2))}, [("mill", "inn", 3), ("inn", "", 2)])
        self.assertEqual([(name, rate.text()) for name, rate in end_rates(book).items()], [("inn", "1/2"), ("mill", "0")])
        self.assertEqual((fallen(book), fallen(book.with_inlet("inn", 3))), (["inn", "mill"], ["mill"]))
        paper = weights_paper(book, "inn")
        self.assertEqual([(name, weight.text()) for name, weight in paper.items()], [("inn", "1"), ("mill", "1")])
        self.assertEqual((gain_of(book, paper).text(), worth_of(book, paper).text()), ("1/2", "6"))
        self.assertEqual(latest_fall(book, "inn", paper).text(), "4")
        self.assertEqual((shows_falling(book, "inn", {"inn": 1}), feeding_paper(book, "inn")), (False, None))
        fed = book.with_inlet("inn", 3)
        self.assertEqual((never_falls(fed, "inn"), shows_holding(fed, "inn", {"inn": 2, "mill": 0})), (True, True))
        self.assertEqual((end_slopes(fed)["inn"].text(), leaving(fed).text()), ("1", "2"))
        self.assertRaises(BadTable, latest_fall, fed, "inn", paper)


if __name__ == "__main__":
    unittest.main()
