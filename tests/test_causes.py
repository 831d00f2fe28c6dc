"""Points 3, 5, 6, 7, 8 and 31 to 33: whose fall makes whose."""

import unittest
from itertools import combinations

from paystreams.books import Book
from paystreams.causes import (
    causes, debtors, end_with, falls_alone, help_needed, hurt_by_cut, least_help, roots, saved_by, saved_by_cut,
)
from paystreams.course import fall_of, falls, later
from paystreams.ends import end_rates, fallen
from paystreams.errors import NoStream
from paystreams.rates import inflows, rates, short
from paystreams.ratios import Ratio
from tests.samples import (
    BIG, FAR, GivenCase, any_book, dice, great_book, model_inflows, model_rates, no_accounts, plain, redrawn, shown,
    values_of_every_kind,
)

HALF = Ratio(1, 2)


def trio():
    return Book({"ann": (0, 1), "bob": (0, 0), "cy": (0, 0)}, [("ann", "bob", 2), ("bob", "cy", 2), ("cy", "", 1)])


def fed(book, helped):
    """The book in which the inlets of some accounts are very great."""
    for name in helped:
        book = book.with_inlet(name, FAR * FAR)
    return book


def some_names(source, book):
    names = [name for name in book.names() if source.random() < 0.4]
    source.shuffle(names)
    return [*names, *names[:1]]


class HeldUpTest(GivenCase):
    def test_a_small_book(self):
        cases = [([], ["1", "1", "1"], [], "0"), (["ann"], ["2", "2", "1"], ["bob"], "1"),
                 (["bob"], ["1", "2", "1"], [], "1"), (["ann", "bob"], ["2", "2", "1"], [], "1"),
                 (["cy"], ["1", "1", "1"], [], "0"), (["bob", "bob"], ["1", "2", "1"], [], "1"),
                 (["ann", "cy", "ann"], ["2", "2", "1"], ["bob"], "1")]
        for helped, expected, saved, needed in cases:
            with self.subTest(helped=helped):
                for given in [helped, tuple(helped)]:
                    self.assertEqual(shown(end_with(trio(), given)), dict(zip(["ann", "bob", "cy"], expected)))
                    self.assertEqual(saved_by(trio(), given), saved)
                    self.assertEqual(help_needed(trio(), given).text(), needed)

    def test_what_comes_in_above_a_wish_does_not_help_another_account(self):
        book = Book({"a": (0, 5), "b": (0, 1)}, [("a", "", 2), ("b", "", 4)])
        self.assertEqual(help_needed(book, ["a", "b"]).text(), "3")
        self.assertEqual(help_needed(book, ["a"]).text(), "0")

    def test_help_that_comes_back_in_a_ring(self):
        ring = Book({"a": (0, 0), "b": (0, 0)}, [("a", "b", 2), ("b", "a", 2), ("b", "", 2)])
        self.assertEqual((shown(end_with(ring, ["a"])), saved_by(ring, ["a"])), ({"a": "2", "b": "2"}, []))
        self.assertEqual(help_needed(ring, ["a"]).text(), "1")
        self.assertEqual((shown(end_with(ring, ["b"])), saved_by(ring, ["b"])), ({"a": "2", "b": "4"}, ["a"]))
        self.assertEqual((help_needed(ring, ["b"]).text(), help_needed(ring, ["b", "a"]).text()), ("2", "2"))

    def test_no_accounts_and_no_streams(self):
        self.assertEqual((end_with(Book({}), []), saved_by(Book({}), []), help_needed(Book({}), [])), ({}, [], 0))
        book = Book({"a": (0, 0), "b": (3, 1)})
        self.assertEqual((shown(end_with(book, ["a"])), saved_by(book, ["a"])), ({"a": "0", "b": "0"}, []))
        self.assertEqual(help_needed(book, ["a", "b"]), 0)

    def test_against_a_book_in_which_their_inlets_are_very_great(self):
        source = dice(90)
        saved = 0
        for _ in range(150):
            book = any_book(source)
            helped = some_names(source, book)
            rich = fed(book, helped)
            with self.subTest(book=book.text(), helped=helped):
                table = end_with(book, helped)
                self.assertEqual((table, list(table)), (end_rates(rich), book.names()))
                expected = [name for name in fallen(book) if name not in helped and name not in fallen(rich)]
                self.assertEqual(saved_by(book, helped), expected)
                saved += len(expected)
                coming = model_inflows(book, plain(table))
                gaps = [plain(book.wish(name)) - coming[name] for name in {*helped}]
                needed = help_needed(book, helped)
                self.assertEqual(plain(needed), sum(gap for gap in gaps if gap > 0))
                self.assertIsInstance(needed, Ratio)
                self.assertEqual(help_needed(redrawn(source, book), helped), needed)
                if len(book) < 4:
                    self.assertEqual(plain(table), model_rates(book, helped))
        self.assertGreater(saved, 15)

    def test_a_name_that_is_no_account(self):
        for call in [end_with, saved_by, help_needed]:
            self.assert_no_account_in_a_list(call, trio())
            self.assert_no_account_in_a_list(call, Book({}))


class CauseTest(GivenCase):
    def test_a_chain(self):
        book = trio()
        self.assertEqual([causes(book, name) for name in ["ann", "bob", "cy"]], [[], ["ann"], []])
        self.assertEqual([falls_alone(book, name) for name in ["ann", "bob", "cy"]], [True, False, False])
        self.assertEqual([least_help(book, name) for name in ["ann", "bob", "cy"]], [None, ["ann"], []])
        self.assertEqual(roots(book), ["ann"])

    def test_two_that_must_be_held_up_together(self):
        book = Book({name: (9, 0) for name in "abcd"},
                    [("a", "d", 1), ("b", "d", 1), ("c", "d", 1), ("d", "", 2)])
        self.assertEqual((causes(book, "d"), least_help(book, "d"), roots(book)), ([], ["a", "b"], ["a", "b", "c"]))
        richer = book.with_stream("c", "d", 2)
        self.assertEqual((causes(richer, "d"), least_help(richer, "d")), (["c"], ["c"]))
        poorer = book.with_stream("d", "", 3)
        self.assertEqual((causes(poorer, "d"), least_help(poorer, "d")), ([], ["a", "b", "c"]))
        poorest = book.with_stream("d", "", Ratio(3 * BIG + 1, BIG))
        self.assertEqual((causes(poorest, "d"), least_help(poorest, "d")), ([], None))
        self.assertEqual(roots(poorest), ["a", "b", "c", "d"])

    def test_the_first_one_of_several_lists(self):
        book = Book({name: (0, 0) for name in "abcz"}, [("z", "a", 2), ("b", "a", 2), ("c", "b", 2), ("a", "", 2)])
        self.assertEqual((causes(book, "a"), least_help(book, "a")), (["b", "c", "z"], ["b"]))
        wider = book.with_stream("a", "", 3)
        self.assertEqual((causes(wider, "a"), least_help(wider, "a")), ([], ["b", "z"]))

    def test_a_cause_that_never_falls_itself_is_none(self):
        book = Book({"a": (0, 3), "b": (0, 0)}, [("a", "b", 1), ("b", "", 2)])
        self.assertEqual((causes(book, "b"), falls_alone(book, "b"), roots(book)), ([], True, ["b"]))

    def test_all_of_a_ring(self):
        ring = Book({"a": (0, 0), "b": (0, 0), "c": (0, 0)}, [("a", "b", 2), ("b", "c", 2), ("c", "a", 2), ("a", "", 1)])
        self.assertEqual(fallen(ring), ["a", "b", "c"])
        # a never gets more than 2 of its 3, and passes on two thirds of what it gets.
        self.assertEqual([causes(ring, name) for name in "abc"], [[], ["a"], ["a", "b"]])
        self.assertEqual([least_help(ring, name) for name in "abc"], [None, ["a"], ["a"]])
        self.assertEqual((falls_alone(ring, "a"), roots(ring)), (True, ["a"]))

    def test_by_trying_all_lists(self):
        source = dice(91)
        seen = {0: 0, 1: 0, 2: 0, None: 0}
        for _ in range(120):
            book = any_book(source)
            for name in book.names():
                with self.subTest(book=book.text(), name=name):
                    self.assert_causes(book, name, seen)
            expected = [name for name in book.names() if name in fallen(fed(book, [*{*book.names()} - {name}]))]
            self.assertEqual(roots(book), expected)
        self.assertTrue(min(seen[many] for many in [0, 1, 2, None]) > 5, seen)

    def assert_causes(self, book, name, seen):
        others = [other for other in book.names() if other != name]
        falls_in_the_end = name in fallen(book)
        expected = [other for other in others if falls_in_the_end and name not in fallen(fed(book, [other]))]
        self.assertEqual(causes(book, name), expected)
        alone = name in fallen(fed(book, others))
        self.assertIs(falls_alone(book, name), alone)
        lists = [list(helped) for many in range(len(others) + 1) for helped in combinations(others, many)]
        saving = sorted([len(helped), helped] for helped in lists if name not in fallen(fed(book, helped)))
        found = least_help(book, name)
        self.assertEqual(found, None if alone else saving[0][1])
        key = None if found is None else len(found)
        seen[key] = seen.get(key, 0) + 1

    def test_an_account_falls_only_if_there_are_roots(self):
        source = dice(92)
        for _ in range(100):
            book = any_book(source)
            found = roots(book)
            self.assertEqual(bool(found), bool(fallen(book)))
            self.assertEqual([name for name in short(book, found) if name not in found], [])
            self.assertLessEqual({*found}, {*fallen(book)})

    def test_amounts_make_no_difference(self):
        source = dice(93)
        for _ in range(30):
            book = any_book(source)
            other = redrawn(source, book)
            self.assertEqual(roots(book), roots(other))
            for name in book.names():
                self.assertEqual((causes(book, name), least_help(book, name)), (causes(other, name), least_help(other, name)))

    def test_no_account(self):
        for call in [causes, falls_alone, least_help, debtors]:
            self.assert_no_account(call, trio())
            self.assert_no_account(call, Book({}))


class CutTest(GivenCase):
    def test_a_chain(self):
        book = trio()
        self.assertEqual((hurt_by_cut(book, "bob", "cy"), saved_by_cut(book, "bob", "cy")), (["cy"], ["bob"]))
        self.assertEqual((hurt_by_cut(book, "ann", "bob"), saved_by_cut(book, "ann", "bob")), (["cy"], ["ann"]))
        self.assertEqual((hurt_by_cut(book, "cy", ""), saved_by_cut(book, "cy", "")), ([], []))

    def test_a_stream_that_leads_out(self):
        book = Book({"a": (0, 1), "b": (0, 0)}, [("a", "b", 1), ("a", "", 1), ("b", "", 1)])
        self.assertEqual((hurt_by_cut(book, "a", ""), saved_by_cut(book, "a", "")), ([], ["a", "b"]))
        self.assertEqual((hurt_by_cut(book, "a", "b"), saved_by_cut(book, "a", "b")), ([], ["a"]))

    def test_each_stream_of_random_books(self):
        source = dice(94)
        hurt = saved = 0
        for _ in range(60):
            book = any_book(source)
            before = {*fallen(book)}
            for start, end, _ in book.streams():
                other = Book({name: (book.amount(name), book.inlet(name)) for name in book.names()},
                             [stream for stream in book.streams() if stream[:2] != (start, end)])
                self.assertEqual(hurt_by_cut(book, start, end), sorted({*fallen(other)} - before))
                self.assertEqual(saved_by_cut(book, start, end), sorted(before - {*fallen(other)}))
                hurt += len(hurt_by_cut(book, start, end))
                saved += len(saved_by_cut(book, start, end))
        self.assertTrue(hurt > 20 and saved > 20)

    def test_no_stream(self):
        values = [*values_of_every_kind(), *no_accounts(trio()), "ann", "bob", "cy", "-"]
        streams = [("ann", "bob"), ("bob", "cy"), ("cy", "")]
        for call in [hurt_by_cut, saved_by_cut]:
            for start in values:
                for end in ["ann", "bob", "", None, [1]]:
                    for one, other in [(start, end), (end, start)]:
                        if (one, other) not in streams:
                            with self.assertRaises(NoStream) as caught:
                                call(trio(), one, other)
                            told = caught.exception.given
                            self.assertEqual((type(told), [id(part) for part in told]), (tuple, [id(one), id(other)]))


class DebtorTest(GivenCase):
    def test_small_books(self):
        self.assertEqual([debtors(trio(), name) for name in ["ann", "bob", "cy"]], [[], ["ann"], None])
        book = Book({"a": (2, 0), "b": (1, 0), "c": (9, 0), "d": (3, 0)},
                    [("a", "d", 1), ("b", "d", 1), ("c", "d", 1), ("d", "", 4), ("a", "b", 1)])
        self.assertEqual(shown(falls(book)), [("1", ["a"]), ("2", ["b", "d"]), ("9", ["c"])])
        self.assertEqual([debtors(book, name) for name in "abcd"], [[], ["a"], [], ["a", "b"]])
        self.assertEqual(debtors(book.paid_in("b", HALF), "d"), ["a"])
        self.assertEqual(debtors(book.paid_in("d", BIG), "d"), ["a", "b", "c"])

    def test_random_books(self):
        source = dice(95)
        several = 0
        for _ in range(80):
            book = redrawn(source, any_book(source))
            for name in book.names():
                moment = fall_of(book, name)
                expected = None
                if moment is not None:
                    there = later(book, moment)
                    paying = rates(there)
                    expected = sorted(start for start, end, _ in book.streams()
                                      if end == name and paying[start] < book.wish(start))
                    several += len(expected) > 1
                self.assertEqual(debtors(book, name), expected)
        self.assertGreater(several, 20)


class ArgumentTest(GivenCase):
    def test_by_name(self):
        book = trio()
        self.assertEqual(shown(end_with(helped=["bob"], book=book)), {"ann": "1", "bob": "2", "cy": "1"})
        self.assertEqual((saved_by(helped=("ann",), book=book), help_needed(helped=["ann"], book=book)), (["bob"], 1))
        self.assertEqual((causes(name="bob", book=book), falls_alone(name="ann", book=book)), (["ann"], True))
        self.assertEqual((least_help(name="bob", book=book), roots(book=book)), (["ann"], ["ann"]))
        self.assertEqual(hurt_by_cut(end="cy", start="bob", book=book), ["cy"])
        self.assertEqual(saved_by_cut(end="cy", start="bob", book=book), ["bob"])
        self.assertEqual(debtors(name="bob", book=book), ["ann"])

    def test_nothing_that_was_passed_in_is_changed_and_what_is_returned_is_new(self):
        book, helped = trio(), ["cy", "ann", "cy"]
        text = book.text()
        calls = [lambda: end_with(book, helped), lambda: saved_by(book, helped), lambda: causes(book, "bob"),
                 lambda: least_help(book, "bob"), lambda: roots(book), lambda: hurt_by_cut(book, "bob", "cy"),
                 lambda: saved_by_cut(book, "bob", "cy"), lambda: debtors(book, "bob")]
        for call in calls:
            kept = shown(call())
            self.assertTrue(kept)
            call().clear()
            self.assertEqual(shown(call()), kept)
        help_needed(book, helped)
        self.assertEqual((book.text(), helped), (text, ["cy", "ann", "cy"]))

    def test_numbers_of_60_digits(self):
        source = dice(96)
        for whole, some in [(True, 7), (False, 2)]:
            book = great_book(source, whole)
            names = book.names()
            helped = names[:3]
            table = end_with(book, helped)
            self.assertEqual(table, rates(book, helped))
            coming = inflows(book, helped)
            gaps = [plain(book.wish(name)) - plain(coming[name]) for name in helped]
            self.assertEqual(plain(help_needed(book, helped)), sum(max(gap, 0) for gap in gaps))
            found = roots(book)
            self.assertEqual(short(book, found), [name for name in short(book, found) if name in found])
            for name in names[:some]:
                others = least_help(book, name)
                self.assertEqual(others is None, name in found)
                if others is not None:
                    self.assertIn(name, saved_by(book, others))
                self.assertTrue(all(name in saved_by(book, [other]) for other in causes(book, name)))
            start, end, _ = book.streams()[5]
            self.assertLessEqual({*saved_by_cut(book, start, end)}, {*names})
            self.assertEqual(hurt_by_cut(book, start, end), [])
            self.assertIsNotNone(debtors(book, names[0]))


class ExampleTest(GivenCase):
    def test_the_example_of_the_interface(self):
        book = Book({"ann": (0, 1), "bob": (0, 0), "cy": (0, 0)}, [("ann", "bob", 2), ("bob", "cy", 2), ("cy", "", 1)])
        self.assertEqual((fallen(book), roots(book), causes(book, "bob")), (["ann", "bob"], ["ann"], ["ann"]))
        self.assertEqual((least_help(book, "bob"), least_help(book, "ann"), least_help(book, "cy")), (["ann"], None, []))
        self.assertEqual((saved_by(book, ["ann"]), help_needed(book, ["ann"]).text()), (["bob"], "1"))
        self.assertEqual((end_with(book, ["bob"])["bob"].text(), falls_alone(book, "bob")), ("2", False))
        self.assertEqual((hurt_by_cut(book, "bob", "cy"), saved_by_cut(book, "bob", "cy")), (["cy"], ["bob"]))
        self.assertEqual((debtors(book, "bob"), debtors(book, "cy")), (["ann"], None))
        with self.assertRaises(NoStream) as caught:
            hurt_by_cut(book, "cy", "ann")
        self.assertEqual(caught.exception.given, ("cy", "ann"))


if __name__ == "__main__":
    unittest.main()
