"""Points 6, 8, 10 and 11: Ratios, and the functions beside them."""

import unittest
from fractions import Fraction
from itertools import product

from paystreams.errors import BadNumber, BadText, ByZero
from paystreams.ratios import Ratio, as_ratio, greater, lesser, raised, total
from tests.samples import BIG, HUGE, dice, fraction, numbers, some_ratio, texts, values_of_every_kind


def parts(ratio):
    return ratio.top, ratio.bottom


class RatioCase(unittest.TestCase):
    def assert_is(self, ratio, value):
        """It is a Ratio in lowest terms with this value."""
        self.assertIsInstance(ratio, Ratio)
        self.assertEqual(parts(ratio), (value.numerator, value.denominator))


class LowestTermsTest(RatioCase):
    def test_quotients(self):
        cases = {
            (6, 4): (3, 2), (-6, 4): (-3, 2), (6, -4): (-3, 2), (-6, -4): (3, 2), (7, 7): (1, 1), (7, -7): (-1, 1),
            (0, 5): (0, 1), (0, -5): (0, 1), (8, 2): (4, 1), (3, 9): (1, 3), (-1, -1): (1, 1),
        }
        for (top, bottom), expected in cases.items():
            with self.subTest(top=top, bottom=bottom):
                self.assertEqual(parts(Ratio(top, bottom)), expected)

    def test_the_bottom_is_1_if_it_is_left_out(self):
        for top in [0, 4, -4, BIG]:
            self.assertEqual(parts(Ratio(top)), (top, 1))

    def test_integers_of_60_digits(self):
        self.assertEqual(parts(Ratio(-BIG * 3, -BIG * 6)), (1, 2))
        self.assertEqual(parts(Ratio(BIG, -HUGE)), parts(Ratio(-BIG, HUGE)))
        self.assert_is(Ratio(BIG, -HUGE), Fraction(BIG, -HUGE))

    def test_by_name(self):
        self.assertEqual(parts(Ratio(bottom=-4, top=6)), (-3, 2))
        self.assertEqual(parts(Ratio(top=6)), (6, 1))

    def test_the_parts_are_integers(self):
        for part in parts(Ratio(-3, -6)):
            self.assertIs(type(part), int)

    def test_a_bottom_of_0(self):
        for top in [0, 1, -1, BIG]:
            self.assertRaises(ByZero, Ratio, top, 0)
        self.assertRaises(ByZero, Ratio, top=1, bottom=0)

    def test_a_ratio_never_changes(self):
        ratio = kept = Ratio(1, 2)
        with self.assertRaises(AttributeError):
            ratio.top = 5
        with self.assertRaises(AttributeError):
            ratio.bottom = 5
        ratio += 1
        ratio -= Ratio(1, 3)
        ratio *= 2
        self.assertEqual((parts(kept), parts(ratio)), ((1, 2), (7, 3)))


class ArithmeticTest(RatioCase):
    def pairs(self):
        """A Ratio on the left, and an integer or a Ratio on the right."""
        source = dice(10)
        made = [(some_ratio(source, most), some_ratio(source, most)) for most in [1, 3, 9, BIG] for _ in range(40)]
        return [(as_ratio(one), other) for one in numbers() for other in numbers()] + made

    def test_sums_differences_and_products(self):
        for one, other in self.pairs():
            with self.subTest(one=one.text(), other=as_ratio(other).text()):
                first, second = fraction(one), fraction(other)
                self.assert_is(one + other, first + second)
                self.assert_is(one - other, first - second)
                self.assert_is(one * other, first * second)

    def test_opposite_numbers(self):
        for one in numbers():
            self.assert_is(-as_ratio(one), -fraction(one))

    def test_over(self):
        for one, other in self.pairs():
            if other == 0:
                self.assertRaises(ByZero, one.over, other)
            else:
                self.assert_is(one.over(other), fraction(one) / fraction(other))
        self.assertEqual(parts(Ratio(1, 2).over(number=-3)), (-1, 6))

    def test_over_0_of_each_kind(self):
        for ratio in [Ratio(0), Ratio(1, 2), Ratio(-BIG)]:
            self.assertRaises(ByZero, ratio.over, 0)
            self.assertRaises(ByZero, ratio.over, Ratio(0, 7))

    def test_comparisons(self):
        for one, other in self.pairs():
            first, second = fraction(one), fraction(other)
            self.assertIs(one == other, first == second)
            self.assertIs(one != other, first != second)
            self.assertIs(one < other, first < second)
            self.assertIs(one <= other, first <= second)

    def test_neighbours_of_60_digits_differ(self):
        one, other = Ratio(BIG - 1, BIG), Ratio(BIG - 2, BIG - 1)
        self.assertEqual((other < one, one <= other, one == other), (True, False, False))

    def test_the_operands_stay_as_they_were(self):
        one, other = Ratio(1, 2), Ratio(-2, 3)
        one + other, one - other, one * other, one < other, one == other, -one, one.over(other)
        self.assertEqual((parts(one), parts(other)), ((1, 2), (-2, 3)))


class EqualityTest(unittest.TestCase):
    def test_an_integer_with_the_same_value(self):
        self.assertTrue(Ratio(6, 3) == 2)
        self.assertTrue(2 == Ratio(6, 3))
        self.assertTrue(Ratio(-BIG) == -BIG)
        self.assertFalse(Ratio(1, 2) == 0)
        self.assertFalse(Ratio(3, 2) == 1)

    def test_no_value_that_is_not_a_number(self):
        others = [True, False, None, "1", "0", "", [], [1], (), (1,), {}, {1: 1}, 0.0, 1.0, 0.5, Fraction(1, 2), object()]
        for ratio in [Ratio(0), Ratio(1), Ratio(1, 2)]:
            for other in others:
                with self.subTest(ratio=ratio.text(), other=other):
                    self.assertIs(ratio == other, False)
                    self.assertIs(ratio != other, True)
                    self.assertIs(other == ratio, False)

    def test_an_object_that_claims_to_be_equal_to_all(self):
        class Flatterer:
            top = bottom = 1

            def __eq__(self, other):
                return True

        self.assertFalse(Ratio(1) == Flatterer())

    def test_inside_lists_tuples_and_dicts(self):
        self.assertEqual([Ratio(1, 2), (Ratio(3),)], [Ratio(2, 4), (3,)])
        self.assertNotEqual({"a": Ratio(1)}, {"a": True})


class TextTest(RatioCase):
    def test_texts(self):
        cases = {(-2, 5): "-2/5", (3, 1): "3", (0, -9): "0", (4, -2): "-2", (-3, -6): "1/2", (10, 1): "10"}
        for (top, bottom), text in cases.items():
            self.assertEqual(Ratio(top, bottom).text(), text)
            self.assertEqual(parts(Ratio.read(text)), parts(Ratio(top, bottom)))

    def test_integers_around_60_digits(self):
        for top in [10 ** 59, 10 ** 60 - 1, 10 ** 60, 10 ** 60 + 5, 10 ** 119, 10 ** 120 - 1, 10 ** 120, 7 * 10 ** 180]:
            for number in [top, -top]:
                self.assertEqual(Ratio(number).text(), str(number))
                self.assertEqual(Ratio.read(str(number)).top, number)
                self.assertEqual(Ratio(3 * number, 7).text(), str(Fraction(3 * number, 7)))

    def test_reading_by_name(self):
        self.assert_is(Ratio.read(text="-7/3"), Fraction(-7, 3))

    def test_reading_gives_back_what_was_written(self):
        source = dice(11)
        for most in [1, 5, 40, BIG]:
            for _ in range(60):
                ratio = some_ratio(source, most)
                self.assertEqual(ratio.text(), str(fraction(ratio)))
                self.assert_is(Ratio.read(ratio.text()), fraction(ratio))

    def test_texts_of_no_ratio(self):
        wrong = [
            "", " ", "-", "/", "-/", "+3", "-0", "00", "07", "-07", "2/4", "3/1", "0/1", "0/5", "-0/5", "1/0", "0/0", "/2",
            "1/", "1/-2", "-1/-2", "1/+2", "1/02", "1/2/3", "--1", "1-", " 1", "1 ", "1\n", "\n1", "1 /2", "1/ 2", "1.5",
            "1e3", "1_0", "0x1", "a", "half", "None", "True", "1//2", "-6/4", "4/2", "1,5", "1/2/", "-" + "0" * 61,
            "0" * 60 + "1", "\u0663", "\u00b2", "1/\u0662",
        ]
        for text in wrong:
            with self.subTest(text=text):
                self.assertRaises(BadText, Ratio.read, text)

    def test_every_short_string_of_likely_characters(self):
        short = ["".join(signs) for length in range(5) for signs in product("-+/0124 ", repeat=length)]
        right = {str(top) for top in range(-999, 10000)}
        right |= {str(Fraction(top, bottom)) for top in range(-9, 100) for bottom in range(1, 100)}
        for text in short:
            if text in right:
                self.assertEqual(Ratio.read(text).text(), text)
            else:
                self.assertRaises(BadText, Ratio.read, text)

    def test_texts_of_4000_characters(self):
        long = "9" * 2000 + "/1" + "0" * 1998
        self.assertEqual(Ratio.read(long).text(), long)
        self.assertEqual(Ratio.read("-" + "8" * 3999).text(), "-" + "8" * 3999)
        self.assertRaises(BadText, Ratio.read, "0" + "8" * 3999)
        self.assertRaises(BadText, Ratio.read, "8" * 3999 + "+")

    def test_numbers_that_are_longer_than_python_itself_shows(self):
        long = raised(Ratio(-10, 3), 9001)
        text = long.text()
        self.assertEqual(text[:9003], "-1" + "0" * 9001)
        self.assertEqual(text[9003:9004], "/")
        self.assertEqual(parts(Ratio.read(text)), (-10 ** 9001, 3 ** 9001))
        self.assertRaises(BadText, Ratio.read, text + "0")


class AsRatioTest(RatioCase):
    def test_values_of_every_kind(self):
        for value in values_of_every_kind():
            with self.subTest(value=value):
                if isinstance(value, Ratio) or type(value) is int:
                    self.assert_is(as_ratio(value), fraction(value))
                    self.assert_is(as_ratio(given=value), fraction(value))
                else:
                    with self.assertRaises(BadNumber) as caught:
                        as_ratio(value)
                    self.assertIs(caught.exception.given, value)

    def test_other_values(self):
        for value in [0.0, 1.5, b"1", Fraction(1, 2), {1}, Ratio, object()]:
            with self.assertRaises(BadNumber) as caught:
                as_ratio(value)
            self.assertIs(caught.exception.given, value)

    def test_by_name(self):
        with self.assertRaises(BadNumber) as caught:
            as_ratio(given="1/2")
        self.assertEqual(caught.exception.given, "1/2")


class FunctionTest(RatioCase):
    def test_lesser_and_greater(self):
        for one in numbers():
            for other in numbers():
                first, second = fraction(one), fraction(other)
                self.assert_is(lesser(one, other), min(first, second))
                self.assert_is(greater(one, other), max(first, second))
        self.assert_is(lesser(other=1, one=2), Fraction(1))
        self.assert_is(greater(other=1, one=2), Fraction(2))

    def test_total(self):
        self.assert_is(total([]), Fraction(0))
        self.assert_is(total(()), Fraction(0))
        self.assert_is(total([3]), Fraction(3))
        self.assert_is(total(numbers()), sum(fraction(number) for number in numbers()))
        self.assert_is(total(numbers=tuple(numbers())), sum(fraction(number) for number in numbers()))

    def test_total_leaves_its_list_alone(self):
        given = [1, Ratio(1, 2), -3]
        kept = list(given)
        total(given)
        self.assertEqual(len(given), 3)
        for before, after in zip(kept, given):
            self.assertIs(before, after)
        self.assertEqual(parts(given[1]), (1, 2))

    def test_raised(self):
        for number in numbers():
            for exponent in range(12):
                self.assert_is(raised(number, exponent), fraction(number) ** exponent)
        self.assert_is(raised(exponent=3, number=Ratio(-1, 2)), Fraction(-1, 8))

    def test_the_exponent_0(self):
        for number in [0, Ratio(0), -5, Ratio(2, 3)]:
            self.assert_is(raised(number, 0), Fraction(1))

    def test_an_exponent_of_60_digits(self):
        self.assertEqual(texts([raised(0, BIG), raised(1, BIG), raised(-1, BIG), raised(Ratio(-1), BIG - 1)]),
                         ["0", "1", "-1", "1"])

    def test_the_example_of_the_interface(self):
        half = Ratio(-3, -6)
        shown = (
            half.top, half.bottom, (half - 2).text(), half.over(Ratio(3, 4)).text(), half <= Ratio(1, 2),
            raised(half, 3).text(),
        )
        self.assertEqual(shown, (1, 2, "-3/2", "2/3", True, "1/8"))
        shown = (
            lesser(half, 1) == half, greater(-half, -1).text(), total([half, 1, half]).text(), Ratio.read("-7/3").bottom,
        )
        self.assertEqual(shown, (True, "-1/2", "2", 3))
        with self.assertRaises(BadNumber) as caught:
            as_ratio("1/2")
        self.assertEqual(caught.exception.given, "1/2")


if __name__ == "__main__":
    unittest.main()
