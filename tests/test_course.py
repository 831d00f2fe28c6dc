"""Points 2, 4, 5, 6, 7, 8, 20, 21 and 22: what becomes of a book as time goes by."""

import unittest
from fractions import Fraction

from paystreams.books import Book
from paystreams.course import fall_of, falls, later, paid, pieces, rates_at, settled
from paystreams.errors import BadDays, NoAccount
from paystreams.rates import inflows, rates, short, stream_rates
from paystreams.ratios import Ratio, as_ratio
from tests.samples import (
    BIG, FAR, NO_UNSIGNED, amounts_of, dice, great_book, model_course, moments_of, plain, shown, some_book, some_part,
    values_of_every_kind,
)

HALF = Ratio(1, 2)


def inn_book():
    return Book({"mill": (6, 0), "inn": (0, HALF)}, [("mill", "inn", 3), ("inn", "", 2)])


def chain(amounts, wishes):
    """Accounts a, b, c .. each of which pays the next one, and the last one out."""
    names = "abcdefg"[:len(amounts)]
    streams = [(start, end, wish) for start, end, wish in zip(names, [*names[1:], ""], wishes)]
    return Book({name: (amount, 0) for name, amount in zip(names, amounts)}, streams)


class CourseCase(unittest.TestCase):
    def assert_no_account(self, book, call):
        values = [value for value in values_of_every_kind() if value != "mill"]
        for value in [*values, "mil", "Mill", " mill", "barn", ["mill"], ("mill",), {"mill": 1}]:
            with self.subTest(value=value), self.assertRaises(NoAccount) as caught:
                call(book, value)
            self.assertIs(caught.exception.given, value)

    def assert_bad_days(self, book, call):
        for value in NO_UNSIGNED:
            with self.subTest(value=value), self.assertRaises(BadDays) as caught:
                call(book, value)
            self.assertIs(caught.exception.given, value)


class FallsTest(CourseCase):
    def test_one_behind_the_other(self):
        self.assertEqual(shown(falls(inn_book())), [("2", ["mill"]), ("4", ["inn"])])
        self.assertEqual(shown([fall_of(inn_book(), name) for name in ["mill", "inn"]]), ["2", "4"])
        self.assertEqual(shown(falls(chain([1, 1, 1], [1, 1, 1]))), [("1", ["a"]), ("2", ["b"]), ("3", ["c"])])

    def test_at_the_moment_0(self):
        book = Book({"b": (0, 0), "a": (0, HALF), "c": (0, 1), "d": (2, 0)},
                    [("a", "", 1), ("b", "", 1), ("c", "", 1), ("d", "", 1)])
        self.assertEqual(shown(falls(book)), [("0", ["a", "b"]), ("2", ["d"])])
        self.assertEqual(shown([fall_of(book, name) for name in "abcd"]), ["0", "0", None, "2"])
        self.assertEqual(shown(settled(book)), "2")
        self.assertEqual(shown(falls(chain([0, 0, 0], [3, 2, 1]))), [("0", ["a", "b", "c"])])
        self.assertEqual(shown(settled(chain([0, 0, 0], [3, 2, 1]))), "0")

    def test_several_at_the_same_moment(self):
        book = Book({"c": (3, 0), "a": (2, 0), "b": (1, 0)}, [("a", "", 2), ("b", "", 1), ("c", "", 3)])
        self.assertEqual(shown(falls(book)), [("1", ["a", "b", "c"])])
        book = Book({"a": (1, 0), "b": (Ratio(1, 3), 0), "c": (3, 0)}, [("a", "", 3), ("b", "", 1), ("c", "", 1)])
        self.assertEqual(shown(falls(book)), [("1/3", ["a", "b"]), ("3", ["c"])])
        almost = book.paid_in("b", Ratio(1, BIG))
        self.assertEqual([names for _, names in falls(almost)], [["a"], ["b"], ["c"]])

    def test_an_account_that_falls_because_another_one_fell(self):
        self.assertEqual(shown(falls(chain([2, 0, 0], [1, 1, 1]))), [("2", ["a", "b", "c"])])
        self.assertEqual(shown(falls(chain([2, 0, 1], [1, 1, 1]))), [("2", ["a", "b"]), ("3", ["c"])])
        self.assertEqual(shown(falls(chain([2, 0, 0], [2, 1, 1]))), [("1", ["a"]), ("2", ["b", "c"])])
        kept = chain([2, 0, 0], [1, 1, 1]).with_inlet("b", 1)
        self.assertEqual(shown(falls(kept)), [("2", ["a"])])

    def test_nobody_falls(self):
        for book in [Book({}), Book({"a": (0, 0)}), Book({"a": (0, 3)}, [("a", "", 3)]),
                     Book({"a": (1, 4)}, [("a", "", 3)]),
                     Book({"a": (0, 0), "b": (0, 0)}, [("a", "b", 2), ("b", "a", 2)])]:
            self.assertEqual((falls(book), shown(settled(book))), ([], "0"))
            self.assertEqual([fall_of(book, name) for name in book.names()], [None] * len(book))

    def test_an_inflow_that_is_just_enough_or_just_too_little(self):
        for wish, moment in [(1, None), (Ratio(BIG + 1, BIG), BIG)]:
            book = Book({"a": (1, 1)}, [("a", "", wish)])
            self.assertEqual(fall_of(book, "a"), moment)

    def test_rings(self):
        ring = Book({"a": (3, 0), "b": (0, 0)}, [("a", "b", 2), ("b", "a", 1)])
        self.assertEqual(shown(falls(ring)), [("3", ["a"])])
        self.assertEqual(shown(later(ring, 5).text()), "account a 0 0\naccount b 3 0\nstream a b 2\nstream b a 1")
        leaking = Book({"a": (3, 0), "b": (0, 0)}, [("a", "b", 2), ("b", "a", 1), ("b", "", 1)])
        self.assertEqual(shown(falls(leaking)), [("3", ["a", "b"])])

    def test_a_moment_as_far_as_wanted(self):
        book = Book({"a": (FAR, 0), "b": (BIG, 0)}, [("a", "", 1), ("b", "", Ratio(1, BIG))])
        self.assertEqual([(moment, names) for moment, names in falls(book)], [(FAR, ["a"]), (BIG * BIG, ["b"])])

    def test_no_account(self):
        self.assert_no_account(inn_book(), fall_of)
        self.assert_no_account(inn_book(), pieces)


class LaterTest(CourseCase):
    def test_amounts(self):
        cases = {0: ("0", "6"), 1: ("3/2", "3"), 2: ("3", "0"), 3: ("3/2", "0"), 4: ("0", "0"), FAR: ("0", "0")}
        for days, (inn, mill) in cases.items():
            found = later(inn_book(), days)
            self.assertIsInstance(found, Book)
            self.assertEqual(shown(amounts_of(found)), {"inn": inn, "mill": mill})
            self.assertEqual((found.streams(), found.inlet("inn")), (inn_book().streams(), HALF))
        self.assertEqual(later(inn_book(), Ratio(7, 3)).amount("inn"), Ratio(5, 2))

    def test_no_days_later(self):
        source = dice(50)
        for _ in range(20):
            book = some_book(source, source.randint(0, 5))
            self.assertEqual(later(book, 0), book)
            self.assertEqual(later(book, Ratio(0)), book)

    def test_later_and_then_later(self):
        source = dice(51)
        for _ in range(60):
            book = some_book(source, source.randint(1, 4), source.choice([3, 20]))
            for days in moments_of(book, source)[:4]:
                for more in [1, Ratio(1, 3), source.choice(moments_of(book, source))]:
                    with self.subTest(book=book.text(), days=shown(days), more=shown(more)):
                        self.assertEqual(later(later(book, days), more), later(book, days + more))
                        self.assertEqual(rates_at(later(book, days), more), rates_at(book, days + more))

    def test_the_course_is_shifted_by_the_days(self):
        source = dice(52)
        for _ in range(40):
            book = some_book(source, source.randint(1, 4), 6)
            days = some_part(source, 4)
            there = later(book, days)
            for name in book.names():
                moment = fall_of(book, name)
                if moment is None:
                    self.assertIsNone(fall_of(there, name))
                else:
                    self.assertEqual(fall_of(there, name), moment - days if as_ratio(days) < moment else 0)

    def test_rates_from_a_moment_on(self):
        book = inn_book()
        before, between, behind = {"inn": "2", "mill": "3"}, {"inn": "2", "mill": "0"}, {"inn": "1/2", "mill": "0"}
        cases = [(0, before), (Ratio(2 * BIG - 1, BIG), before), (2, between), (3, between),
                 (Ratio(4 * BIG - 1, BIG), between),
                 (4, behind), (5, behind), (FAR, behind)]
        for days, expected in cases:
            self.assertEqual(shown(rates_at(book, days)), expected)
        self.assertEqual(list(rates_at(book, 3)), ["inn", "mill"])

    def test_bad_days(self):
        for call in [later, rates_at, paid]:
            self.assert_bad_days(inn_book(), call)
            self.assert_bad_days(Book({}), call)


class PaidTest(CourseCase):
    def test_what_has_flowed(self):
        cases = {0: ("0", "0"), 1: ("2", "3"), 2: ("4", "6"), 3: ("6", "6"), 4: ("8", "6"), 5: ("17/2", "6"),
                 10: ("11", "6")}
        for days, (out, through) in cases.items():
            self.assertEqual(shown(paid(inn_book(), days)), [("inn", "", out), ("mill", "inn", through)])
        self.assertEqual(shown(paid(inn_book(), FAR)[0][2]), str(6 + FAR // 2))
        self.assertEqual(shown(paid(inn_book(), Ratio(9, 4))[0][2]), "9/2")

    def test_streams_in_their_order(self):
        book = Book({"b": (4, 0), "a": (0, 0)}, [("b", "a", 1), ("a", "b", 3), ("b", "", 2), ("a", "", 1)])
        self.assertEqual([item[:2] for item in paid(book, 1)], [stream[:2] for stream in book.streams()])
        self.assertEqual([type(item) for item in paid(book, 1)], [tuple] * 4)
        self.assertEqual(paid(Book({"a": (1, 1)}), 5), [])

    def test_what_comes_in_is_what_is_there_and_what_went_away(self):
        source = dice(53)
        for _ in range(60):
            book = some_book(source, source.randint(1, 5), 5)
            for days in moments_of(book, source):
                flowed, there = plain(paid(book, days)), later(book, days)
                for name in book.names():
                    came = plain(book.amount(name)) + plain(book.inlet(name)) * plain(days)
                    came += sum(amount for _, end, amount in flowed if end == name)
                    self.assertEqual(came - sum(amount for start, _, amount in flowed if start == name),
                                     plain(there.amount(name)))

    def test_each_stream_of_an_account_gets_its_part(self):
        source = dice(54)
        for _ in range(30):
            book = some_book(source, 4, 5, 7)
            days = some_part(source, 9)
            flowed = plain(paid(book, days))
            for start, end, amount in flowed:
                whole = sum(other for begin, _, other in flowed if begin == start)
                self.assertEqual(amount, whole * plain(book.wish_of(start, end)) / plain(book.wish(start)))


class PiecesTest(CourseCase):
    def test_unlike_slopes(self):
        self.assertEqual(shown(pieces(inn_book(), "inn")), [("0", "0", "3/2"), ("2", "3", "-3/2"), ("4", "0", "0")])
        self.assertEqual(shown(pieces(inn_book(), "mill")), [("0", "6", "-3"), ("2", "0", "0")])

    def test_what_changes_nothing_begins_no_piece(self):
        book = Book({"a": (1, 0), "b": (2, 0), "c": (9, 1), "d": (0, 0)},
                    [("a", "", 1), ("b", "d", 1), ("c", "", 3), ("d", "", 1)])
        self.assertEqual(shown(falls(book)), [("1", ["a"]), ("2", ["b", "d"]), ("9/2", ["c"])])
        self.assertEqual(shown([pieces(book, name) for name in "abcd"]), [
            [("0", "1", "-1"), ("1", "0", "0")], [("0", "2", "-1"), ("2", "0", "0")],
            [("0", "9", "-2"), ("9/2", "0", "0")], [("0", "0", "0")]])

    def test_an_amount_that_grows_for_ever(self):
        book = Book({"a": (1, 0), "b": (0, 5)}, [("a", "b", 2), ("b", "", 1)])
        self.assertEqual(shown(pieces(book, "b")), [("0", "0", "6"), ("1/2", "3", "4")])
        self.assertEqual(later(book, FAR).amount("b"), 4 * FAR + 1)

    def test_an_account_alone(self):
        self.assertEqual(shown(pieces(Book({"a": (HALF, 0)}), "a")), [("0", "1/2", "0")])
        self.assertEqual(shown(pieces(Book({"a": (0, HALF)}), "a")), [("0", "0", "1/2")])

    def test_pieces_tell_the_amounts_of_all_moments(self):
        source = dice(55)
        for _ in range(60):
            book = some_book(source, source.randint(1, 4), 6)
            for name in book.names():
                found = pieces(book, name)
                self.assertEqual(found[0][0], 0)
                for one, other in zip(found, found[1:]):
                    self.assertTrue(one[0] < other[0])
                    self.assertNotEqual(one[2], other[2])
                    self.assertEqual(one[1] + one[2] * (other[0] - one[0]), other[1])
                for days in moments_of(book, source):
                    start, amount, slope = [piece for piece in found if piece[0] <= days][-1]
                    self.assertEqual(amount + slope * (days - start), later(book, days).amount(name))
                    self.assertTrue(all(isinstance(number, Ratio) for number in (start, amount, slope)))


class ModelTest(CourseCase):
    def test_random_books(self):
        source = dice(56)
        for _ in range(120):
            book = some_book(source, source.randint(0, 4), source.choice([1, 3, 10, BIG]), source.choice([3, 5, 8]))
            with self.subTest(book=book.text()):
                self.assert_as_the_model(book, model_course(book))

    def assert_as_the_model(self, book, stretches):
        wishes = {name: plain(book.wish(name)) for name in book.names()}
        dry = [[name for name in book.names() if table[name] < wishes[name]] for _, _, table, _ in stretches]
        expected = [(stretch[0], [name for name in names if name not in before])
                    for stretch, names, before in zip(stretches, dry, [[], *dry])]
        self.assertEqual(plain(falls(book)), [(moment, names) for moment, names in expected if names])
        self.assertEqual(plain(settled(book)), stretches[-1][0])
        for name in book.names():
            moments = [moment for moment, names in expected if name in names]
            self.assertEqual(plain(fall_of(book, name)), moments[0] if moments else None)
        for moment, amounts, table, slopes in stretches:
            for days, after in [(moment, 0), (moment + Fraction(1, 10 ** 70), Fraction(1, 10 ** 70))]:
                given = Ratio(days.numerator, days.denominator)
                self.assertEqual(plain(rates_at(book, given)), table)
                expected = {name: amounts[name] + slopes[name] * after for name in amounts}
                self.assertEqual(plain(amounts_of(later(book, given))), expected)

    def test_at_each_moment_the_rich_pay_and_money_flows_at_the_rates(self):
        source = dice(57)
        for _ in range(50):
            book = some_book(source, source.randint(1, 5), 6, 4)
            for days in moments_of(book, source):
                there = later(book, days)
                self.assertEqual(rates_at(book, days), rates(there))
                for name in book.names():
                    slope = [piece[2] for piece in pieces(book, name) if piece[0] <= days][-1]
                    self.assertEqual(slope, inflows(there)[name] - rates(there)[name])


class MainStatementTest(CourseCase):
    def test_no_stream_gets_faster_and_who_has_fallen_stays_short(self):
        source = dice(58)
        for _ in range(60):
            book = some_book(source, source.randint(1, 5), 6, 6)
            books = [later(book, days) for days in moments_of(book, source)]
            for one, other in zip(books, books[1:]):
                for before, after in zip(stream_rates(one), stream_rates(other)):
                    self.assertTrue(after[2] <= before[2])
                self.assertLessEqual(set(short(one)), set(short(other)))
                self.assertTrue(all(one.amount(name) == 0 for name in short(one)))
            self.assertLessEqual(len(falls(book)), len(book))

    def test_in_the_end_all_is_the_same_whatever_the_amounts_were(self):
        source = dice(59)
        for _ in range(40):
            book = some_book(source, source.randint(1, 5), 4)
            for _ in range(3):
                book = book.paid_in(source.choice(book.names()), some_part(source, 20))
                self.assertEqual(sorted(name for _, names in falls(book) for name in names), short(book, []))
                self.assertEqual(rates_at(book, settled(book)), rates(book, []))
                self.assertEqual(rates_at(book, settled(book) + FAR), rates(book, []))

    def test_with_more_money_nobody_falls_earlier_and_nothing_is_slower(self):
        source = dice(60)
        for _ in range(60):
            book = some_book(source, source.randint(1, 4), 5)
            name = source.choice(book.names())
            more = book.paid_in(name, some_part(source, 5))
            if source.random() < 0.5:
                more = book.with_inlet(name, book.inlet(name) + some_part(source, 2))
            for other in book.names():
                if fall_of(more, other) is not None:
                    self.assertTrue(fall_of(book, other) <= fall_of(more, other))
            for days in moments_of(book, source):
                one, two = rates_at(book, days), rates_at(more, days)
                self.assertTrue(all(one[other] <= two[other] for other in one))
                for before, after in zip(paid(book, days), paid(more, days)):
                    self.assertTrue(before[2] <= after[2])

    def test_7_accounts_and_36_streams_with_numbers_of_60_digits(self):
        source = dice(61)
        for whole in [True, True, False]:
            book = great_book(source, whole)
            found = falls(book)
            self.assertEqual(sorted(name for _, names in found for name in names), book.names())
            self.assertEqual([moment for moment, _ in found], sorted([moment for moment, _ in found], key=plain))
            self.assertEqual(found[-1][0], settled(book))
            for moment, names in found[:2]:
                there = later(book, moment)
                self.assertTrue(all(there.amount(name) == 0 for name in names))
                self.assertEqual(rates_at(book, moment), rates(there))
                self.assertLessEqual(set(names), set(short(there)))
            half = found[0][0] * HALF
            self.assertEqual(later(later(book, half), half), later(book, found[0][0]))
            flowed = [amount for _, end, amount in plain(paid(book, FAR * BIG)) if end == ""]
            kept = sum(plain(amounts_of(later(book, FAR * BIG))).values())
            came = sum(plain(book.amount(name)) + FAR * BIG * plain(book.inlet(name)) for name in book.names())
            self.assertEqual(sum(flowed) + kept, came)


class ArgumentTest(CourseCase):
    def test_by_name(self):
        book = inn_book()
        self.assertEqual(shown(falls(book=book)), [("2", ["mill"]), ("4", ["inn"])])
        self.assertEqual(shown(fall_of(name="mill", book=book)), "2")
        self.assertEqual(later(days=3, book=book), later(book, 3))
        self.assertEqual(shown(rates_at(days=4, book=book)), {"inn": "1/2", "mill": "0"})
        self.assertEqual(shown(paid(days=10, book=book)), [("inn", "", "11"), ("mill", "inn", "6")])
        self.assertEqual(shown(pieces(name="mill", book=book)), [("0", "6", "-3"), ("2", "0", "0")])
        self.assertEqual(shown(settled(book=book)), "4")

    def test_numbers_are_ratios(self):
        book = inn_book()
        numbers = [*[moment for moment, _ in falls(book)], fall_of(book, "inn"), *rates_at(book, 0).values(),
                   settled(book), settled(Book({})), *[amount for _, _, amount in paid(book, 0)],
                   *[part for piece in pieces(book, "inn") for part in piece]]
        for number in numbers:
            self.assertIsInstance(number, Ratio)

    def test_the_book_stays_as_it_was_and_what_is_returned_is_new(self):
        book = inn_book()
        text = book.text()
        calls = [lambda: falls(book), lambda: rates_at(book, 3), lambda: paid(book, 3), lambda: pieces(book, "inn")]
        for call in calls:
            kept = shown(call())
            call().clear()
            self.assertEqual(shown(call()), kept)
        falls(book)[0][1].append("x")
        self.assertEqual(shown(falls(book)), [("2", ["mill"]), ("4", ["inn"])])
        later(book, 3), settled(book), fall_of(book, "inn")
        self.assertEqual(book.text(), text)


class ExampleTest(CourseCase):
    def test_the_example_of_the_interface(self):
        book = Book({"mill": (6, 0), "inn": (0, Ratio(1, 2))}, [("mill", "inn", 3), ("inn", "", 2)])
        self.assertEqual([(moment.text(), names) for moment, names in falls(book)], [("2", ["mill"]), ("4", ["inn"])])
        self.assertEqual((fall_of(book, "mill").text(), settled(book).text()), ("2", "4"))
        self.assertEqual((later(book, 3).amount("inn").text(), rates_at(book, 4)["inn"].text()), ("3/2", "1/2"))
        self.assertEqual([amount.text() for start, end, amount in paid(book, 10)], ["11", "6"])
        self.assertEqual([(start.text(), amount.text(), slope.text()) for start, amount, slope in pieces(book, "inn")],
                         [("0", "0", "3/2"), ("2", "3", "-3/2"), ("4", "0", "0")])
        with self.assertRaises(BadDays) as caught:
            later(book, -1)
        self.assertEqual(caught.exception.given, -1)


if __name__ == "__main__":
    unittest.main()
