"""Points 2, 6, 7, 8, 14, 15 and 16: books, what they tell, and the books that come of changes."""

import unittest

from paystreams.books import Book
from paystreams.errors import BadAmount, BadInlet, BadName, BadStream, NoAccount, NoStream, TooMuch
from paystreams.ratios import Ratio, as_ratio
from tests.samples import (
    BIG, HUGE, NO_POSITIVE, NO_UNSIGNED, dice, fraction, great_book, some_book, texts, values_of_every_kind,
)

HALF = Ratio(1, 2)
NO_NAMES = [
    "", "abcdefghi", "Mill", "mIll", "mil1", "mill ", " mill", "mi ll", "mi-ll", "-", "mi_ll", "m\n", "mill\n", "`",
    "{", "a.b", "m\xfchle", "\xdf", "\u0430", None, True, False, 0, 7, (), ("mill",), ("m", "i"), b"mill", 0.5,
]


def no_account_values():
    """Values of every kind that are no name of an account of `village`."""
    others = [value for value in values_of_every_kind() if value != "mill"]
    return [*others, "mil", "millx", "Mill", " mill", "barn", ["mill"], ("mill",), {"mill": 1}, Ratio(1), b"mill"]


def village():
    return Book({"mill": (6, 0), "inn": (0, HALF), "bank": (0, 1)},
                [("mill", "inn", 3), ("inn", "", 2), ("inn", "bank", HALF)])


class BookCase(unittest.TestCase):
    def assert_raises(self, error_class, value, call, *given):
        """The very value is what the error tells."""
        with self.assertRaises(error_class) as caught:
            call(*given)
        self.assertIs(caught.exception.given, value)

    def assert_ratio(self, found, text):
        self.assertIsInstance(found, Ratio)
        self.assertEqual(found.text(), text)


class MakingTest(BookCase):
    def test_names_of_1_to_8_letters(self):
        for name in ["a", "z", "az", "abcdefgh", "zzzzzzzz", "qwertyui"]:
            self.assertEqual(Book({name: (0, 0)}).names(), [name])

    def test_values_that_are_no_names(self):
        for name in NO_NAMES:
            with self.subTest(name=name):
                self.assert_raises(BadName, name, Book, {name: (0, 0)})

    def test_the_first_wrong_name_in_the_order_of_the_dict_counts(self):
        self.assert_raises(BadName, "Z", Book, {"b": (0, 0), "Z": (0, 0), "": (0, 0), "A": (0, 0)})
        self.assert_raises(BadName, "", Book, {"b": (0, 0), "": (0, 0), "Z": (0, 0)})

    def test_amounts_and_inlets(self):
        for number in [0, Ratio(0), 1, HALF, BIG, Ratio(BIG, HUGE), Ratio(1, BIG)]:
            book = Book({"mill": (number, 0), "inn": (0, number)})
            self.assertEqual((book.amount("mill"), book.inlet("inn")), (number, number))
            self.assertEqual((book.inlet("mill"), book.amount("inn")), (0, 0))
        for number in NO_UNSIGNED:
            with self.subTest(number=number):
                self.assert_raises(BadAmount, number, Book, {"mill": (number, 0)})
                self.assert_raises(BadInlet, number, Book, {"mill": (0, number)})

    def test_amounts_and_inlets_are_checked_key_by_key(self):
        self.assert_raises(BadInlet, -1, Book, {"b": (0, -1), "a": (-2, 0)})
        self.assert_raises(BadAmount, -2, Book, {"b": (-2, -1), "a": (-3, 0)})
        self.assert_raises(BadAmount, -3, Book, {"b": (2, 1), "c": (-3, -4), "a": (0, -5)})

    def test_names_are_checked_before_amounts_and_these_before_streams(self):
        self.assert_raises(BadName, "B", Book, {"a": (-1, -1), "B": (0, 0)}, [("a", "a", 0)])
        self.assert_raises(BadInlet, -1, Book, {"a": (0, -1)}, [("a", "a", 0)])
        self.assert_raises(BadAmount, "1", Book, {"a": ("1", 1)}, [("a", "a", 0)])

    def test_streams_of_each_kind(self):
        accounts = {"mill": (0, 0), "inn": (0, 0), "bank": (0, 0)}
        ring = [("mill", "inn", 1), ("inn", "mill", HALF)]
        for streams in [[], [("mill", "", 1)], ring,
                        [*ring, ("inn", "", 1), ("mill", "bank", BIG), ("bank", "inn", Ratio(1, BIG))]]:
            book = Book(accounts, streams)
            self.assertEqual(book.streams(), sorted(streams, key=lambda stream: stream[:2]))

    def test_values_that_are_no_streams(self):
        accounts = {"mill": (0, 0), "inn": (0, 0)}
        wrong = [
            *values_of_every_kind(), ["mill", "inn", 1], ("mill", "inn"), ("mill", "inn", 1, 1), (), ("mill",), "abc",
            ("mill", "mill", 1), ("", "mill", 1), ("", "", 1), ("barn", "mill", 1), ("mill", "barn", 1),
            ("mill", "-", 1), ("Mill", "inn", 1), ("mill", "Inn", 1), ("mill", " ", 1), {"mill": 1, "inn": 2, "x": 3},
            *[("mill", "inn", wish) for wish in NO_POSITIVE],
            *[(value, "inn", 1) for value in values_of_every_kind() if value != "mill"],
            *[("inn", value, 1) for value in values_of_every_kind() if value not in ("mill", "")],
        ]
        for stream in wrong:
            with self.subTest(stream=stream):
                self.assert_raises(BadStream, stream, Book, accounts, [("mill", "inn", 1), stream])
                self.assert_raises(BadStream, stream, Book, accounts, [stream, ("mill", "inn", 0)])

    def test_a_stream_with_the_start_and_end_of_an_earlier_one(self):
        accounts = {"mill": (0, 0), "inn": (0, 0)}
        for first in [("mill", "inn", 1), ("mill", "", 1)]:
            again = (first[0], first[1], Ratio(1, 3))
            self.assert_raises(BadStream, again, Book, accounts, [first, ("inn", "mill", 1), again, ("mill", "x", 1)])
            self.assert_raises(BadStream, first, Book, accounts, [again, first])
        self.assertEqual(len(Book(accounts, [("mill", "inn", 1), ("mill", "", 1), ("inn", "", 1)]).streams()), 3)

    def test_arguments_by_name_and_tuples(self):
        book = Book(streams=(("mill", "", 2),), accounts={"mill": (1, 2)})
        self.assertEqual(book, Book({"mill": (1, 2)}, [("mill", "", 2)]))
        self.assertEqual(Book(accounts={"mill": (1, 2)}), Book({"mill": (1, 2)}, ()))

    def test_what_was_passed_in_is_copied_and_not_changed(self):
        accounts = {"mill": (6, 0), "inn": (0, HALF)}
        streams = [("mill", "inn", 3), ("inn", "mill", 1)]
        book = Book(accounts, streams)
        self.assertEqual(list(accounts.items()), [("mill", (6, 0)), ("inn", (0, HALF))])
        self.assertEqual(streams, [("mill", "inn", 3), ("inn", "mill", 1)])
        text = book.text()
        accounts["barn"] = (1, 1)
        accounts["mill"] = (7, 7)
        streams.append(("inn", "", 1))
        streams[0] = ("mill", "", 9)
        self.assertEqual(book.text(), text)


class TellingTest(BookCase):
    def test_the_book_without_accounts(self):
        book = Book({})
        self.assertEqual((book.names(), book.streams(), len(book)), ([], [], 0))
        self.assertEqual(book, Book(accounts={}, streams=()))

    def test_names_are_ascending_whatever_the_order_of_the_dict(self):
        book = Book({name: (0, 0) for name in ["inn", "b", "aa", "ab", "a", "z"]})
        self.assertEqual(book.names(), ["a", "aa", "ab", "b", "inn", "z"])
        self.assertEqual(len(book), 6)

    def test_streams_are_ascending_by_start_and_then_by_end(self):
        accounts = {name: (0, 0) for name in ["c", "a", "ab", "b"]}
        streams = [("c", "a", 1), ("a", "c", 2), ("ab", "", 3), ("a", "b", 4), ("ab", "a", 5), ("a", "", 6),
                   ("a", "ab", 7)]
        found = Book(accounts, streams).streams()
        self.assertEqual([stream[:2] for stream in found],
                         [("a", ""), ("a", "ab"), ("a", "b"), ("a", "c"), ("ab", ""), ("ab", "a"), ("c", "a")])
        self.assertEqual(texts([wish for _, _, wish in found]), ["6", "7", "4", "2", "3", "5", "1"])
        self.assertEqual([type(stream) for stream in found], [tuple] * 7)

    def test_amount_inlet_and_wish(self):
        book = village()
        self.assertEqual(texts([book.amount(name) for name in ["bank", "inn", "mill"]]), ["0", "0", "6"])
        self.assertEqual(texts([book.inlet(name) for name in ["bank", "inn", "mill"]]), ["1", "1/2", "0"])
        self.assertEqual(texts([book.wish(name) for name in ["bank", "inn", "mill"]]), ["0", "5/2", "3"])
        self.assert_ratio(book.amount(name="mill"), "6")
        self.assert_ratio(book.inlet(name="mill"), "0")
        self.assert_ratio(book.wish(name="mill"), "3")

    def test_wish_of(self):
        book = village()
        self.assert_ratio(book.wish_of("mill", "inn"), "3")
        self.assert_ratio(book.wish_of("inn", ""), "2")
        self.assert_ratio(book.wish_of(end="bank", start="inn"), "1/2")

    def test_no_such_account(self):
        book = village()
        for call in [book.amount, book.inlet, book.wish]:
            for name in no_account_values():
                with self.subTest(name=name):
                    self.assert_raises(NoAccount, name, call, name)

    def test_no_such_stream(self):
        book = village()
        pairs = [("inn", "mill"), ("mill", ""), ("mill", "mill"), ("mill", "bank"), ("", "mill"), ("", ""),
                 ("bank", "inn"), ("inn", "-")]
        pairs = [*pairs, *[(value, "inn") for value in no_account_values()],
                 *[("mill", value) for value in no_account_values()]]
        for start, end in pairs:
            for call in [book.wish_of, book.without_stream]:
                with self.subTest(start=start, end=end), self.assertRaises(NoStream) as caught:
                    call(start, end)
                told = caught.exception.given
                self.assertIs(type(told), tuple)
                self.assertEqual(len(told), 2)
                self.assertIs(told[0], start)
                self.assertIs(told[1], end)

    def test_lists_that_are_returned_are_new(self):
        book = village()
        text = book.text()
        book.names().append("x")
        book.names().clear()
        book.streams().clear()
        self.assertEqual((book.names(), len(book), len(book.streams()), book.text()),
                         (["bank", "inn", "mill"], 3, 3, text))
        self.assertIsNot(book.names(), book.names())
        self.assertIsNot(book.streams(), book.streams())

    def test_numbers_of_60_digits(self):
        source = dice(30)
        for whole in [True, False]:
            book = great_book(source, whole)
            self.assertEqual((len(book), len(book.streams())), (7, 36))
            for name in book.names():
                wishes = [fraction(wish) for start, end, wish in book.streams() if start == name]
                self.assertEqual(fraction(book.wish(name)), sum(wishes))
            self.assertTrue(all(book.wish_of(start, end) == wish for start, end, wish in book.streams()))


class EqualityTest(BookCase):
    def test_equal_books(self):
        accounts = {"bank": (Ratio(0), Ratio(2, 2)), "inn": (0, Ratio(2, 4)), "mill": (Ratio(6), 0)}
        streams = [("inn", "bank", Ratio(2, 4)), ("inn", "", Ratio(2)), ("mill", "inn", Ratio(9, 3))]
        other = Book(accounts, streams)
        self.assertTrue(village() == other)
        self.assertFalse(village() != other)
        self.assertTrue(village() == village())
        self.assertTrue(Book({}) == Book({}))

    def test_books_that_differ_in_one_thing(self):
        book = village()
        accounts = {"mill": (6, 0), "inn": (0, HALF), "bank": (0, 1)}
        streams = book.streams()
        others = [
            Book({**accounts, "mill": (5, 0)}, streams), Book({**accounts, "bank": (Ratio(1, BIG), 1)}, streams),
            Book({**accounts, "mill": (6, HALF)}, streams),
            Book({**accounts, "bank": (0, Ratio(BIG, BIG - 1))}, streams),
            Book({**accounts, "mill": (0, 6)}, streams), Book({**accounts, "barn": (0, 0)}, streams),
            Book(accounts, streams[1:]), Book(accounts, streams[:-1]), Book(accounts, [*streams, ("bank", "", 1)]),
            Book(accounts, [*streams[1:], ("inn", "", Ratio(7, 4))]),
            Book(accounts, [*streams[1:], ("inn", "mill", 2)]),
            Book(accounts, [*streams[:-1], ("mill", "", 3)]), Book(accounts), Book({}),
            Book({"mill": (6, 0), "inn": (0, HALF), "bang": (0, 1)},
                 [("mill", "inn", 3), ("inn", "", 2), ("inn", "bang", HALF)]),
        ]
        for other in others:
            with self.subTest(other=other.text()):
                self.assertIs(book == other, False)
                self.assertIs(other == book, False)
                self.assertIs(book != other, True)
        self.assertFalse(Book({"a": (1, 0), "b": (2, 0)}) == Book({"a": (2, 0), "b": (1, 0)}))

    def test_objects_of_other_classes(self):
        for other in [*values_of_every_kind(), village().text(), village().names(), object(), 0.5]:
            self.assertIs(village() == other, False)
            self.assertIs(other == village(), False)
            self.assertIs(Book({}) == other, False)


class ChangingTest(BookCase):
    def changed(self, book, call, *given):
        """The book that comes of a change; the one from which it was made stays as it was."""
        text = book.text()
        found = call(*given)
        self.assertIsInstance(found, Book)
        self.assertEqual(book.text(), text)
        return found

    def differing_lines(self, one, other):
        return sorted(set(one.text().split("\n")) ^ set(other.text().split("\n")))

    def test_paid_in(self):
        book = village()
        cases = [("mill", 2, "8"), ("mill", HALF, "13/2"), ("inn", BIG, str(BIG)), ("bank", 0, "0"),
                 ("mill", Ratio(0), "6")]
        for name, amount, expected in cases:
            found = self.changed(book, book.paid_in, name, amount)
            self.assert_ratio(found.amount(name), expected)
            self.assertEqual(len(self.differing_lines(book, found)), 0 if amount == 0 else 2)
            self.assertEqual(found == book, amount == 0)
        self.assertEqual(book.paid_in(amount=2, name="mill").amount("mill"), 8)

    def test_drawn(self):
        book = village()
        for name, amount, expected in [("mill", 2, "4"), ("mill", HALF, "11/2"), ("mill", 6, "0"),
                                       ("mill", Ratio(6), "0"), ("inn", 0, "0")]:
            found = self.changed(book, book.drawn, name, amount)
            self.assert_ratio(found.amount(name), expected)
            self.assertEqual(len(self.differing_lines(book, found)), 0 if amount == 0 else 2)
        self.assertEqual(book.drawn(amount=2, name="mill").amount("mill"), 4)
        self.assertEqual(book.paid_in("inn", HALF).drawn("inn", HALF), book)

    def test_more_drawn_than_there_is(self):
        book = village()
        for name, amount in [("mill", 7), ("mill", Ratio(13, 2)), ("mill", Ratio(6 * BIG + 1, BIG)), ("inn", 1),
                             ("inn", Ratio(1, BIG)), ("bank", BIG)]:
            self.assert_raises(TooMuch, amount, book.drawn, name, amount)
        self.assertEqual(book, village())

    def test_wrong_arguments_of_paid_in_and_drawn(self):
        book = village()
        for call in [book.paid_in, book.drawn]:
            for name in no_account_values():
                for amount in [1, -1, 100, None]:
                    self.assert_raises(NoAccount, name, call, name, amount)
            for amount in NO_UNSIGNED:
                self.assert_raises(BadAmount, amount, call, "mill", amount)
                self.assert_raises(BadAmount, amount, call, "inn", amount)
        self.assertEqual(book, village())

    def test_with_inlet(self):
        book = village()
        for name, inlet, expected in [("mill", 2, "2"), ("inn", Ratio(1, 3), "1/3"), ("inn", 0, "0"),
                                      ("bank", BIG, str(BIG)), ("inn", HALF, "1/2")]:
            found = self.changed(book, book.with_inlet, name, inlet)
            self.assert_ratio(found.inlet(name), expected)
            self.assertEqual(len(self.differing_lines(book, found)), 0 if inlet == HALF else 2)
        self.assertEqual(book.with_inlet(inlet=2, name="mill").inlet("mill"), 2)
        for name in no_account_values():
            for inlet in [1, -1, None]:
                self.assert_raises(NoAccount, name, book.with_inlet, name, inlet)
        for inlet in NO_UNSIGNED:
            self.assert_raises(BadInlet, inlet, book.with_inlet, "mill", inlet)

    def test_with_one_more_stream(self):
        book = village()
        for start, end, wish in [("bank", "", 1), ("bank", "mill", HALF), ("mill", "bank", BIG),
                                 ("inn", "mill", Ratio(1, BIG)), ("mill", "", 3)]:
            found = self.changed(book, book.with_stream, start, end, wish)
            self.assertEqual(found.wish_of(start, end), wish)
            self.assertEqual(len(found.streams()), 4)
            self.assertEqual(len(self.differing_lines(book, found)), 1)
            self.assertEqual(found.streams(), sorted(found.streams(), key=lambda stream: stream[:2]))
        self.assertEqual(book.with_stream(wish=1, end="", start="bank").wish("bank"), 1)

    def test_with_another_wish(self):
        book = village()
        for start, end, wish in [("mill", "inn", 4), ("inn", "", Ratio(1, 3)), ("inn", "bank", BIG)]:
            found = self.changed(book, book.with_stream, start, end, wish)
            self.assert_ratio(found.wish_of(start, end), as_ratio(wish).text())
            self.assertEqual(len(found.streams()), 3)
            self.assertEqual(len(self.differing_lines(book, found)), 2)
        self.assertEqual(book.with_stream("mill", "inn", Ratio(3)), book)

    def test_with_what_is_no_stream(self):
        book = village()
        wrong = [("mill", "mill", 1), ("", "mill", 1), ("barn", "mill", 1), ("mill", "barn", 1), ("mill", "-", 1),
                 ("inn", "inn", 0)]
        wrong = [*wrong, *[("mill", "inn", wish) for wish in NO_POSITIVE],
                 *[("bank", "", wish) for wish in NO_POSITIVE],
                 *[(name, "inn", 1) for name in no_account_values()],
                 *[("mill", name, 1) for name in no_account_values() if name != ""]]
        for start, end, wish in wrong:
            with self.subTest(start=start, end=end, wish=wish), self.assertRaises(BadStream) as caught:
                book.with_stream(start, end, wish)
            told = caught.exception.given
            self.assertIs(type(told), tuple)
            self.assertEqual([id(part) for part in told], [id(start), id(end), id(wish)])
        self.assertEqual(book, village())

    def test_without_a_stream(self):
        book = village()
        for start, end, _ in book.streams():
            found = self.changed(book, book.without_stream, start, end)
            self.assertEqual(found.streams(), [stream for stream in book.streams() if stream[:2] != (start, end)])
            self.assertEqual(len(self.differing_lines(book, found)), 1)
            self.assertEqual(found.with_stream(start, end, book.wish_of(start, end)), book)
            self.assertRaises(NoStream, found.without_stream, start, end)
        self.assertEqual(len(book.without_stream(end="inn", start="mill").streams()), 2)

    def test_random_books(self):
        source = dice(31)
        for _ in range(60):
            book = some_book(source, source.randint(1, 7))
            name = source.choice(book.names())
            self.assertEqual(self.changed(book, book.paid_in, name, Ratio(7, 3)).drawn(name, Ratio(7, 3)), book)
            self.assertEqual(self.changed(book, book.drawn, name, book.amount(name)).amount(name), 0)
            self.assertEqual(self.changed(book, book.with_inlet, name, BIG).with_inlet(name, book.inlet(name)), book)
            found = book
            for start, end, wish in book.streams():
                found = self.changed(found, found.without_stream, start, end)
            self.assertEqual((found.streams(), found.names()), ([], book.names()))
            for start, end, wish in reversed(book.streams()):
                found = self.changed(found, found.with_stream, start, end, wish)
            self.assertEqual(found, book)


class ExampleTest(BookCase):
    def test_the_example_of_the_interface(self):
        book = Book({"mill": (6, 0), "inn": (0, Ratio(1, 2))}, [("mill", "inn", 3), ("inn", "", 2), ("mill", "", 1)])
        shown = (
            book.names(), len(book), book.wish("mill").text(), book.wish_of("inn", "").text(), book.amount("mill").text(),
        )
        self.assertEqual(shown, (["inn", "mill"], 2, "4", "2", "6"))
        self.assertEqual(
            book.text(), "account inn 0 1/2\naccount mill 6 0\nstream inn - 2\nstream mill - 1\nstream mill inn 3")
        shown = (
            Book.read(book.text()) == book, book.paid_in("inn", 2).drawn("inn", 2) == book,
            len(book.without_stream("inn", "").streams()),
        )
        self.assertEqual(shown, (True, True, 2))
        stream = ("mill", "inn", 3)
        self.assert_raises(BadStream, stream, Book, {"mill": (6, 0)}, [stream])


if __name__ == "__main__":
    unittest.main()
