"""Points 2, 8 and 17: the texts of books."""

import math
import re
import unittest

from paystreams.books import Book
from paystreams.errors import BadLine
from paystreams.ratios import Ratio
from tests.samples import BIG, HUGE, dice, great_book, some_book

TEXT = "account ab 6 0\naccount inn 0 1/2\nstream ab - 1\nstream ab inn 3\nstream inn ab 12/5"
SIGNS = "".join(chr(code) for code in range(32, 127) if chr(code) != "%") + "\n"
NUMBER = r"(0|[1-9][0-9]*)(?:/([1-9][0-9]*))?"
ACCOUNT = re.compile(f"account ([a-z]{{1,8}}) {NUMBER} {NUMBER}")
STREAM = re.compile(f"stream ([a-z]{{1,8}}) (-|[a-z]{{1,8}}) {NUMBER}")


def in_lowest_terms(top, bottom):
    return bottom is None or (bottom != "1" and math.gcd(int(top), int(bottom)) == 1)


def is_book_text(lines):
    """Whether some lines are those of a book, told in another way than by the program."""
    accounts = [ACCOUNT.fullmatch(line) for line in lines if not line.startswith("stream ")]
    streams = [STREAM.fullmatch(line) for line in lines[len(accounts):]]
    if None in accounts or None in streams:
        return False
    names = [found[1] for found in accounts]
    places = [(found[1], found[2].strip("-")) for found in streams]
    right = all(in_lowest_terms(found[2], found[3]) and in_lowest_terms(found[4], found[5]) for found in accounts)
    right = right and all(in_lowest_terms(found[3], found[4]) and found[3] != "0" for found in streams)
    inside = all(start in names and end in ["", *names] and start != end for start, end in places)
    return right and inside and names == sorted(set(names)) and places == sorted(set(places))


def wrong_line(text):
    """The first line that cannot stand there: the lines up to it are no text of a book, those ahead of it are one."""
    lines = text.split("\n") if text else []
    return next((many for many in range(1, len(lines) + 1) if not is_book_text(lines[:many])), None)


class TextCase(unittest.TestCase):
    def assert_line(self, text, number):
        with self.assertRaises(BadLine) as caught:
            Book.read(text)
        self.assertEqual(caught.exception.line, number)
        self.assertIs(type(caught.exception.line), int)

    def assert_read(self, text):
        """It is read, or refused, as it should be."""
        number = wrong_line(text)
        with self.subTest(text=text):
            if number is None:
                self.assertEqual(Book.read(text).text(), text)
            else:
                self.assert_line(text, number)


class WritingTest(TextCase):
    def test_lines(self):
        book = Book({"inn": (Ratio(0), Ratio(3, 6)), "ab": (6, 0)},
                    [("inn", "ab", Ratio(12, 5)), ("ab", "inn", 3), ("ab", "", 1)])
        self.assertEqual(book.text(), TEXT)

    def test_the_book_without_accounts(self):
        self.assertEqual(Book({}).text(), "")
        self.assertEqual(Book.read(""), Book({}))

    def test_accounts_alone(self):
        self.assertEqual(Book({"b": (1, 2), "a": (Ratio(7, 3), BIG)}).text(), f"account a 7/3 {BIG}\naccount b 1 2")

    def test_one_name_that_begins_another_one(self):
        book = Book({"ab": (0, 0), "a": (0, 0), "aa": (0, 0)},
                    [("aa", "ab", 1), ("a", "ab", 1), ("a", "aa", 1), ("aa", "", 1)])
        self.assertEqual(book.text().split("\n"), [
            "account a 0 0", "account aa 0 0", "account ab 0 0",
            "stream a aa 1", "stream a ab 1", "stream aa - 1", "stream aa ab 1"])


class ReadingTest(TextCase):
    def test_books_come_back(self):
        source = dice(32)
        books = [some_book(source, source.randint(0, 7), source.choice([2, BIG])) for _ in range(150)]
        for book in [*books, great_book(source, True), great_book(source, False)]:
            self.assertEqual(Book.read(book.text()), book)
            self.assertEqual(Book.read(text=book.text()).text(), book.text())

    def test_a_long_text(self):
        number = Ratio(10 ** 350 + 1, 10 ** 349).text()
        text = "\n".join([f"account {name} {number} {number}" for name in "ab"] + [f"stream a b {number}"])
        self.assertGreater(len(text), 3400)
        self.assertEqual(Book.read(text).text(), text)

    def test_wrong_lines_by_hand(self):
        cases = {
            "\n": 1, " ": 1, "\n" + TEXT: 1, TEXT + "\n": 6, TEXT + "\n\n": 6, TEXT + "\n ": 6, TEXT + "\nx": 6,
            "account": 1, "account a": 1, "account a 1": 1, "account a 1 1 1": 1, "account a 1 1 ": 1,
            " account a 1 1": 1,
            "account  a 1 1": 1, "account a  1": 1, "Account a 1 1": 1, "accounts a 1 1": 1, "account - 1 1": 1,
            "account A 1 1": 1, "account  1 1": 1, "account abcdefghi 1 1": 1, "account a1 1 1": 1, "a 1 1": 1,
            "account a -1 1": 1, "account a 1 -1": 1, "account a -0 1": 1, "account a 2/4 1": 1, "account a 1 3/1": 1,
            "account a +1 1": 1, "account a 01 1": 1, "account a 1 x": 1, "account a 1/0 1": 1, "account a 0/1 1": 1,
            "account a 1 1\naccount a 1 1": 2, "account b 1 1\naccount a 1 1": 2, "account a 1 1\nb 1 1": 2,
            "stream a b 1": 1, "stream a - 1": 1, "account a 1 1\nstream a b 1": 2, "account a 1 1\nstream b - 1": 2,
            "account a 1 1\nstream a a 1": 2, "account a 1 1\nstream a  1": 2, "account a 1 1\nstream a - 0": 2,
            "account a 1 1\nstream a - -1": 2, "account a 1 1\nstream - a 1": 2, "account a 1 1\nstream a -": 2,
            "account a 1 1\nstream a - 1\nstream a - 1": 3, "account a 1 1\nstream a - 1\naccount b 1 1": 3,
            "account a 1 1\nstream a -- 1": 2, "account a 1 1\nstream a - 1 1": 2, "account a 1 1\nstream a - 1\n": 3,
            "account a 1 1\naccount b 1 1\nstream b - 1\nstream a - 1": 4,
            "account a 1 1\naccount b 1 1\nstream a b 1\nstream a - 1": 4,
            "account a 1 1\naccount b 1 1\nstream a b 1\nstream b - 1": None,
        }
        for text, number in cases.items():
            with self.subTest(text=text):
                self.assertEqual(wrong_line(text), number)
                self.assert_read(text)

    def test_what_follows_makes_no_difference(self):
        lines = TEXT.split("\n")
        for place in range(len(lines)):
            for rest in [[], lines[place:], ["x", ""]]:
                self.assert_line("\n".join([*lines[:place], "account ab 1 -1", *rest]), place + 1)

    def test_a_line_too_many(self):
        lines = TEXT.split("\n")
        for place in range(len(lines) + 1):
            for line in [*lines, "", "account aaa 0 0", "account z 1 1", "stream inn - 1", "stream ab z 1",
                         "stream z - 1"]:
                self.assert_read("\n".join([*lines[:place], line, *lines[place:]]))

    def test_a_line_left_out_or_two_exchanged(self):
        lines = TEXT.split("\n")
        for place in range(len(lines)):
            self.assert_read("\n".join([*lines[:place], *lines[place + 1:]]))
            for other in range(place):
                swapped = list(lines)
                swapped[place], swapped[other] = swapped[other], swapped[place]
                self.assert_read("\n".join(swapped))

    def test_a_sign_put_in_changed_or_left_out_at_each_place(self):
        for place in range(len(TEXT) + 1):
            self.assert_read(TEXT[:place] + TEXT[place + 1:])
            for sign in SIGNS:
                self.assert_read(TEXT[:place] + sign + TEXT[place:])
                self.assert_read(TEXT[:place] + sign + TEXT[place + 1:])

    def test_texts_of_random_lines(self):
        source = dice(33)
        lines = ["account a 1 2", "account b 1/2 0", "account c 0 3", "stream a - 1", "stream a b 2/3", "stream b a 5",
                 "stream c b 1", "stream c - 0", "account b 2/4 0", ""]
        for _ in range(1500):
            self.assert_read("\n".join(source.choices(lines, k=source.randint(0, 6))))
            self.assert_read("\n".join(sorted(source.sample(lines[:7], source.randint(0, 7)))))

    def test_numbers_of_60_digits(self):
        right = Ratio(BIG, HUGE).text()
        self.assertEqual(Book.read(f"account a {right} {BIG}").inlet("a"), BIG)
        for wrong in [f"{BIG * 2}/{HUGE * 2}", f"{BIG}/1", f"-{BIG}", f"-{right}", f"0{BIG}", f"{BIG}/{BIG}",
                      right + "/", right + "/1"]:
            self.assert_line(f"account a {wrong} 0", 1)
            self.assert_line(f"account a 0 {wrong}", 1)
            self.assert_line(f"account a 0 0\nstream a - {wrong}", 2)


if __name__ == "__main__":
    unittest.main()
