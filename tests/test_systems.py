"""Points 6, 8, 12 and 13: systems of equations, least places and weighed sums."""

import copy
import unittest
from itertools import permutations, product

from paystreams.errors import BadSystem
from paystreams.ratios import Ratio, as_ratio
from paystreams.systems import applied, inverse, least_place, solved, weighed
from tests.samples import BIG, HUGE, dice, fraction, numbers, some_ratio, texts


def random_row(source, size, most):
    return [some_ratio(source, most) if source.random() < 0.5 else source.randint(-most, most) for _ in range(size)]


def random_rows(source, size, most):
    return [random_row(source, size, most) for _ in range(size)]


def determinant(rows):
    """By all permutations: slow, but nothing that the program does."""
    result = 0
    for order in permutations(range(len(rows))):
        sign = 1
        for place, other in product(range(len(rows)), repeat=2):
            if place < other and order[place] > order[other]:
                sign = -sign
        for place, other in enumerate(order):
            sign = sign * fraction(rows[place][other])
        result = result + sign
    return result


def unit(size):
    return [[1 if place == other else 0 for other in range(size)] for place in range(size)]


class SystemCase(unittest.TestCase):
    def assert_ratios(self, found, expected):
        self.assertIs(type(found), list)
        for number in found:
            self.assertIsInstance(number, Ratio)
        self.assertEqual([fraction(number) for number in found], [fraction(number) for number in expected])

    def assert_no_solution(self, rows, right):
        self.assertRaises(BadSystem, solved, rows, right)
        self.assertRaises(BadSystem, inverse, rows)

    def assert_solved(self, rows, right):
        """The solution and the inverse do what the document says, by plain sums of Fractions."""
        solution = solved(rows, right)
        self.assertEqual(len(solution), len(rows))
        for row, number in zip(rows, right):
            found = sum(fraction(item) * fraction(part) for item, part in zip(row, solution))
            self.assertEqual(found, fraction(number))
        by_inverse = [sum(fraction(item) * fraction(number) for item, number in zip(row, right)) for row in inverse(rows)]
        self.assert_ratios(solution, by_inverse)


class SolvedTest(SystemCase):
    def test_one_row(self):
        self.assert_ratios(solved([[3]], [2]), [Ratio(2, 3)])
        self.assert_ratios(solved([[Ratio(-1, 2)]], [Ratio(3, 4)]), [Ratio(-3, 2)])
        self.assert_ratios(solved([[5]], [0]), [0])

    def test_the_system_without_rows(self):
        self.assertEqual(solved([], []), [])
        self.assertEqual(solved((), ()), [])
        self.assertEqual(inverse([]), [])

    def test_random_systems(self):
        source = dice(12)
        for size, most in product(range(1, 6), [1, 2, 9]):
            for _ in range(15):
                rows, right = random_rows(source, size, most), random_row(source, size, most)
                if determinant(rows) == 0:
                    self.assert_no_solution(rows, right)
                else:
                    self.assert_solved(rows, right)

    def test_all_small_systems_of_two_rows(self):
        for one, two, three, four in product([-1, 0, 1, Ratio(1, 2)], repeat=4):
            rows = [[one, two], [three, four]]
            if determinant(rows) == 0:
                self.assert_no_solution(rows, [1, 2])
            else:
                self.assert_solved(rows, [1, Ratio(-2, 3)])

    def test_systems_of_8_rows_with_integers_of_60_digits(self):
        source = dice(13)
        self.assert_solved([[source.randint(-BIG, BIG) for _ in range(8)] for _ in range(8)], [BIG] * 8)
        rows = random_rows(source, 8, BIG)
        self.assert_solved(rows, [some_ratio(source, BIG) for _ in range(8)])
        # One row more is a sum of others: then there is no solution, however long the integers are.
        rows[7] = [item - other for item, other in zip(map(as_ratio, rows[2]), rows[5])]
        self.assert_no_solution(rows, [1] * 8)

    def test_nothing_is_rounded(self):
        rows = [[BIG, BIG - 1], [BIG - 1, BIG - 2]]
        self.assert_ratios(solved(rows, [1, 0]), [-(BIG - 2), BIG - 1])
        self.assert_ratios(solved([[Ratio(1, BIG), 1], [Ratio(1, HUGE), 1]], [0, 1]),
                           [Ratio(BIG * HUGE, BIG - HUGE), Ratio(-HUGE, BIG - HUGE)])

    def test_rows_that_want_another_order(self):
        for order in permutations(range(4)):
            rows = [unit(4)[place] for place in order]
            self.assert_solved(rows, [1, 2, 3, 4])
            self.assertEqual([solved(rows, [1, 2, 3, 4])[place] for place in order], [1, 2, 3, 4])
        self.assert_solved([[0, 0, 2], [0, Ratio(1, 3), 5], [4, 1, 1]], [1, 2, 3])
        # The lead of the second row only vanishes when the first one is taken away.
        self.assert_solved([[1, 1, 1], [1, 1, 2], [1, 2, 1]], [3, 4, 5])

    def test_no_solution(self):
        self.assert_no_solution([[0]], [1])
        self.assert_no_solution([[1, 2], [2, 4]], [1, 3])
        self.assert_no_solution([[1, 2, 3], [4, 5, 6], [7, 8, 9]], [1, 0, 0])
        self.assert_no_solution([[Ratio(1, 2), Ratio(1, 3)], [3, 2]], [0, 1])

    def test_more_than_one_solution(self):
        self.assert_no_solution([[0]], [0])
        self.assert_no_solution([[1, 2], [2, 4]], [1, 2])
        self.assert_no_solution([[1, 2, 3], [4, 5, 6], [7, 8, 9]], [0, 0, 0])
        self.assert_no_solution([[0, 1], [0, 1]], [1, 1])
        self.assert_no_solution([[0, 0], [0, 0]], [0, 0])


class InverseTest(SystemCase):
    def test_what_is_applied_is_taken_back(self):
        source = dice(14)
        for size in range(1, 6):
            rows = random_rows(source, size, 50)
            numbers_there = random_row(source, size, 50)
            self.assert_ratios(applied(inverse(rows), applied(rows, numbers_there)), numbers_there)
            for place, column in enumerate(unit(size)):
                self.assert_ratios([row[place] for row in inverse(rows)], solved(rows, column))

    def test_the_rows_are_lists_of_ratios(self):
        found = inverse([[2, 0], [0, Ratio(1, 4)]])
        self.assertIs(type(found), list)
        self.assert_ratios(found[0], [Ratio(1, 2), 0])
        self.assert_ratios(found[1], [0, 4])

    def test_the_item_i_belongs_to_the_row_i(self):
        found = inverse([[0, 1], [2, 0]])
        self.assertEqual([texts(row) for row in found], [["0", "1/2"], ["1", "0"]])


class AppliedTest(SystemCase):
    def test_sums(self):
        self.assert_ratios(applied([[1, 2], [Ratio(1, 2), -1]], [Ratio(1, 3), 4]), [Ratio(25, 3), Ratio(-23, 6)])
        self.assert_ratios(applied([], []), [])
        self.assert_ratios(applied([[0]], [BIG]), [0])
        self.assert_ratios(applied([[BIG, HUGE], [1, 1]], [HUGE, -BIG]), [0, HUGE - BIG])


class LeastPlaceTest(unittest.TestCase):
    def test_places(self):
        cases = [
            ([5], 0), ([1, 2], 0), ([2, 1], 1), ([2, 1, Ratio(1)], 1), ([Ratio(1), 1], 0), ([0, Ratio(-1, 2), -1, -1], 2),
            ([Ratio(1, 2), Ratio(1, 3), Ratio(1, 3)], 1), ([0, 0, 0], 0), ([BIG, BIG - 1, BIG - 1, BIG], 1),
            ([Ratio(BIG - 1, BIG), Ratio(BIG - 2, BIG - 1)], 1), ([3, Ratio(7, 2), Ratio(5, 2), 3], 2),
        ]
        for given, place in cases:
            with self.subTest(given=texts(map(as_ratio, given))):
                self.assertEqual(least_place(given), place)
                self.assertIs(type(least_place(tuple(given))), int)

    def test_no_numbers(self):
        self.assertIsNone(least_place([]))
        self.assertIsNone(least_place(()))

    def test_as_a_search_among_fractions(self):
        source = dice(15)
        for _ in range(100):
            given = random_row(source, source.randint(1, 8), 3)
            plain = [fraction(number) for number in given]
            self.assertEqual(least_place(given), plain.index(min(plain)))


class WeighedTest(SystemCase):
    def test_sums(self):
        self.assert_ratios([weighed([1, 2], [Ratio(1, 2), 3])], [Ratio(13, 2)])
        self.assert_ratios([weighed([], [])], [0])
        self.assert_ratios([weighed([Ratio(1, 2)], [-4])], [-2])
        self.assert_ratios([weighed([BIG, 1], [BIG, Ratio(1, BIG)])], [as_ratio(BIG * BIG) + Ratio(1, BIG)])
        given = numbers()
        expected = sum(fraction(one) * fraction(other) for one, other in zip(given, reversed(given)))
        self.assertEqual(fraction(weighed(given, given[::-1])), expected)


class ArgumentTest(SystemCase):
    rows = [[2, Ratio(1, 2)], [1, 0]]

    def test_by_name(self):
        self.assertEqual(texts(solved(right=[3, 1], rows=self.rows)), ["1", "2"])
        self.assertEqual([texts(row) for row in inverse(rows=self.rows)], [["0", "1"], ["2", "-4"]])
        self.assertEqual(texts(applied(numbers=[1, 4], rows=self.rows)), ["4", "1"])
        self.assertEqual(least_place(numbers=[2, 1]), 1)
        self.assertEqual(weighed(weights=[2, 3], numbers=[1, 1]).text(), "5")

    def test_tuples(self):
        rows = ((2, Ratio(1, 2)), (1, 0))
        self.assert_ratios(solved(rows, (3, 1)), [1, 2])
        self.assert_ratios(solved(list(rows), (3, 1)), [1, 2])
        self.assertEqual([texts(row) for row in inverse(rows)], [["0", "1"], ["2", "-4"]])
        self.assertEqual([type(row) for row in inverse(rows)], [list, list])
        self.assert_ratios(applied(rows, (1, 4)), [4, 1])
        self.assertEqual(weighed((1, 2), (Ratio(1, 2), 3)).text(), "13/2")

    def test_nothing_that_was_passed_in_is_changed(self):
        # These rows are swapped and cleared on the way, the second system has no solution.
        for rows in [[[0, Ratio(1, 2)], [2, 1]], [[0, 1], [0, 3]]]:
            right = [3, Ratio(1, 3)]
            kept_rows, kept_right = copy.deepcopy(rows), copy.deepcopy(right)
            very = [id(row) for row in rows]
            for call in [lambda: solved(rows, right), lambda: inverse(rows), lambda: applied(rows, right),
                         lambda: least_place(right), lambda: weighed(rows[0], right)]:
                try:
                    call()
                except BadSystem:
                    pass
                self.assertEqual((rows, right), (kept_rows, kept_right))
                self.assertEqual([id(row) for row in rows], very)

    def test_lists_that_are_returned_are_new(self):
        unit_rows = unit(2)
        right = [Ratio(1), Ratio(2)]
        for call in [lambda: solved(unit_rows, right), lambda: applied(unit_rows, right), lambda: inverse(unit_rows),
                     lambda: solved([], []), lambda: inverse([]), lambda: applied([], [])]:
            first = call()
            kept = copy.deepcopy(first)
            first.append(9)
            self.assertEqual(call(), kept)
        self.assertEqual((unit_rows, right), (unit(2), [1, 2]))
        inverse(unit_rows)[0][0] = 9
        self.assertEqual((unit_rows, inverse(unit_rows)), (unit(2), unit(2)))

    def test_the_rows_that_inverse_returns_are_not_shared(self):
        found = inverse([[1, 0], [0, 1]])
        found[0][0] = 9
        self.assertEqual(found[1], [0, 1])


class ExampleTest(unittest.TestCase):
    def test_the_example_of_the_interface(self):
        rows = [[2, Ratio(1, 2)], [1, 0]]
        shown = [number.text() for number in solved(rows, [3, 1])], [[number.text() for number in row] for row in inverse(rows)]
        self.assertEqual(shown, (["1", "2"], [["0", "1"], ["2", "-4"]]))
        shown = (
            [number.text() for number in applied(rows, [1, 4])], least_place([2, 1, Ratio(1)]),
            weighed([1, 2], [Ratio(1, 2), 3]).text(), solved([], []),
        )
        self.assertEqual(shown, (["4", "1"], 1, "13/2", []))
        self.assertRaises(BadSystem, solved, [[1, 2], [2, 4]], [1, 2])


if __name__ == "__main__":
    unittest.main()
