"""Points 2 to 8 and 37 to 39: falls that were seen, and what they tell."""

import unittest
from itertools import product

from paystreams.books import Book
from paystreams.course import fall_of, falls
from paystreams.ends import fallen
from paystreams.errors import BadDays, BadSight, BadTable, Clash, NoAccount
from paystreams.ratios import Ratio, as_ratio
from paystreams.seen import amounts_for, clashing, earliest, fits_sights, is_sight, verdict
from tests.samples import (
    BIG, FAR, NO_UNSIGNED, GivenCase, amounts_of, any_book, dice, great_book, no_accounts, plain, redrawn, shown,
    some_part, values_of_every_kind,
)

HALF = Ratio(1, 2)
TINY = Ratio(1, 10 ** 40)


def inn_book():
    return Book({"mill": (0, 0), "inn": (0, HALF)}, [("mill", "inn", 3), ("inn", "", 2)])


def with_money(book, amounts):
    return Book({name: (amounts[name], book.inlet(name)) for name in book.names()}, book.streams())


def moments_with(book, amounts):
    """The dict of the moments at which the accounts fall with some amounts, and None for those that never do."""
    found = {name: moment for moment, names in falls(with_money(book, amounts)) for name in names}
    return {name: found.get(name) for name in book.names()}


def model_fits(book, sights, amounts):
    moments = plain(moments_with(book, amounts))
    for kind, name, moment in plain(sights):
        if kind == "fell" and moments[name] != moment:
            return False
        if kind == "held" and moments[name] is not None and moments[name] < moment:
            return False
    return True


def true_sights(source, book, most=5):
    """Sights that are true of the amounts of a book: at the moments of falls and ahead of them."""
    found = []
    for _ in range(source.randint(0, most)):
        name = source.choice(book.names())
        moment = fall_of(book, name)
        if moment is None:
            found.append(("held", name, some_part(source, 20)))
        elif source.random() < 0.4:
            found.append(("fell", name, moment.top if moment.bottom == 1 else moment))
        else:
            found.append(("held", name, moment * source.choice([0, Ratio(1, 3), HALF, 1])))
    return found


def altered(source, sights):
    """The sights with one of them changed a little, or with another kind."""
    place = source.randrange(len(sights))
    kind, name, moment = sights[place]
    moment = as_ratio(moment)
    some = [(kind, name, moment + TINY), (kind, name, moment + 1), (kind, name, moment * HALF),
            ("fell", name, moment), ("fell", name, moment + TINY), ("held", name, moment + 3)]
    return [*sights[:place], source.choice(some), *sights[place + 1:]]


def no_sights(book):
    """Values of every kind, and tuples that are nearly sights of the book."""
    name = book.names()[0]
    found = [*values_of_every_kind(), ["fell", name, 1], ("fell", name), ("fell", name, 1, 1), ("falls", name, 1),
             ("Fell", name, 1), ("", name, 1), (None, name, 1), (name, "fell", 1), "abc", {"fell": 1, name: 2, "x": 3}]
    found.extend(("held", value, 1) for value in no_accounts(book))
    found.extend(("fell", value, 1) for value in no_accounts(book))
    found.extend(("fell", name, value) for value in NO_UNSIGNED)
    found.extend(("held", name, value) for value in NO_UNSIGNED)
    found.extend((value, name, 1) for value in values_of_every_kind())
    return found


class SightCase(GivenCase):
    def assert_fit(self, book, sights, amounts):
        """They are amounts that fit, and with them all accounts fall at their earliest moments."""
        self.assertEqual((type(amounts), {*amounts}), (dict, {*book.names()}))
        for amount in amounts.values():
            self.assertIsInstance(amount, Ratio)
            self.assertTrue(0 <= plain(amount))
        self.assertTrue(model_fits(book, sights, amounts))
        self.assertIs(fits_sights(book, sights, amounts), True)
        found = earliest(book, sights)
        self.assertEqual(list(found), book.names())
        self.assertTrue(all(moment is None or isinstance(moment, Ratio) for moment in found.values()))
        self.assertEqual([name for name in found if found[name] is not None], fallen(book))
        self.assertIsNone(clashing(book, sights))

    def assert_clash(self, book, sights):
        self.assertIsNone(amounts_for(book, sights))
        self.assertRaises(Clash, earliest, book, sights)
        self.assertRaises(Clash, verdict, book, sights, book.names()[0], 1)
        places = clashing(book, sights)
        self.assertEqual((type(places), places), (list, sorted({*places})))
        self.assertTrue(all(type(place) is int and place in range(len(sights)) for place in places))
        self.assertIsNone(amounts_for(book, [sights[place] for place in places]))
        for place in places:
            fewer = [sights[other] for other in places if other != place]
            self.assertIsNotNone(amounts_for(book, fewer))


class SightTest(SightCase):
    def test_sights(self):
        book = inn_book()
        for moment in [0, 1, BIG, Ratio(0), HALF, Ratio(1, BIG)]:
            for kind in ["fell", "held"]:
                for name in ["mill", "inn"]:
                    self.assertIs(is_sight(book, (kind, name, moment)), True)
        self.assertIs(is_sight(Book({}), ("held", "mill", 1)), False)

    def test_values_that_are_no_sights(self):
        book = inn_book()
        for value in no_sights(book):
            with self.subTest(value=value):
                self.assertIs(is_sight(book, value), False)

    def test_fits(self):
        book = inn_book()
        amounts = {"inn": 0, "mill": 6}
        cases = [("fell", "inn", 4, True), ("fell", "inn", Ratio(4), True), ("fell", "inn", 3, False),
                 ("fell", "inn", Ratio(4 * BIG + 1, BIG), False), ("held", "inn", 4, True), ("held", "inn", 0, True),
                 ("held", "inn", Ratio(4 * BIG + 1, BIG), False), ("held", "inn", BIG, False),
                 ("fell", "mill", 2, True), ("fell", "mill", 4, False), ("held", "mill", Ratio(2 * BIG - 1, BIG), True)]
        for kind, name, moment, expected in cases:
            with self.subTest(kind=kind, name=name, moment=shown(moment)):
                self.assertIs(fits_sights(book, [(kind, name, moment)], amounts), expected)
                self.assertIs(fits_sights(book, (("held", "inn", 1), (kind, name, moment)), amounts), expected)
        self.assertIs(fits_sights(book, [], {"inn": HALF, "mill": BIG}), True)
        fed = book.with_inlet("inn", 2)
        self.assertIs(fits_sights(fed, [("held", "inn", BIG)], amounts), True)
        self.assertIs(fits_sights(fed, [("fell", "inn", 4)], amounts), False)
        self.assertIs(fits_sights(Book({}), [], {}), True)

    def test_the_amounts_of_the_book_make_no_difference(self):
        book = inn_book()
        for other in [book.paid_in("mill", 7), book.paid_in("inn", BIG)]:
            sights = [("fell", "mill", 2), ("held", "inn", 4)]
            self.assertIs(fits_sights(other, sights, {"inn": 0, "mill": 6}), True)
            self.assertEqual(shown(amounts_for(other, sights)), {"inn": "0", "mill": "6"})
            self.assertEqual(earliest(other, sights), earliest(book, sights))
            self.assertEqual(clashing(other, [*sights, ("held", "mill", 3)]), clashing(book, [*sights, ("held", "mill", 3)]))
            for moment in [3, 4, 5]:
                self.assertEqual(verdict(other, sights, "inn", moment), verdict(book, sights, "inn", moment))

    def test_random_amounts(self):
        source = dice(110)
        seen = {True: 0, False: 0}
        for _ in range(200):
            book = redrawn(source, any_book(source))
            sights = true_sights(source, book)
            if sights and source.random() < 0.6:
                sights = altered(source, sights)
            expected = model_fits(book, sights, amounts_of(book))
            seen[expected] += 1
            self.assertIs(fits_sights(book, sights, amounts_of(book)), expected)
        self.assertTrue(min(seen.values()) > 40, seen)

    def test_wrong_sights_and_wrong_amounts(self):
        book = inn_book()
        right = [("held", "mill", 1), ("fell", "inn", 3)]
        calls = [lambda sights: fits_sights(book, sights, None), lambda sights: amounts_for(book, sights),
                 lambda sights: fits_sights(book, sights, {"inn": 0, "mill": 6}),
                 lambda sights: earliest(book, sights), lambda sights: verdict(book, sights, "nobody", -1),
                 lambda sights: clashing(book, sights)]
        for value in no_sights(book):
            for call in calls:
                with self.subTest(value=value):
                    self.assert_raises(BadSight, value, call, [value])
                    self.assert_raises(BadSight, value, call, (*right, value, "x", ("held", "mill", BIG)))
        wrong = [*values_of_every_kind(), {"inn": 0}, {"inn": 0, "mill": 0, "barn": 0}, {"inn": 0, "barn": 1},
                 {"inn": 0, None: 0}, [("inn", 0), ("mill", 0)], ["inn", "mill"]]
        wrong.extend({"inn": value, "mill": 1} for value in NO_UNSIGNED)
        wrong.extend({"inn": 1, "mill": value} for value in NO_UNSIGNED)
        for value in wrong:
            with self.subTest(value=value):
                self.assertRaises(BadTable, fits_sights, book, right, value)


class AmountTest(SightCase):
    def test_small_books(self):
        book = inn_book()
        cases = [([], ["0", "0"], ["0", "0"]), ([("held", "inn", 4)], ["6", "0"], ["4", "0"]),
                 ([("fell", "mill", 2), ("held", "inn", 4)], ["0", "6"], ["4", "2"]),
                 ([("held", "mill", 2)], ["0", "6"], ["4", "2"]),
                 ([("held", "mill", 1), ("fell", "inn", 3)], ["3/2", "3"], ["3", "1"]),
                 ([("fell", "inn", HALF)], ["3/4", "0"], ["1/2", "0"])]
        for sights, amounts, moments in cases:
            with self.subTest(sights=sights):
                found = amounts_for(book, sights)
                self.assertEqual(shown(found), dict(zip(["inn", "mill"], amounts)))
                self.assertEqual(shown(earliest(book, sights)), dict(zip(["inn", "mill"], moments)))
                self.assert_fit(book, sights, found)

    def test_sights_that_clash(self):
        book = inn_book()
        for sights, places in [([("fell", "mill", 2), ("fell", "mill", 3)], [0, 1]),
                               ([("fell", "inn", 3), ("held", "mill", 2)], [0, 1]),
                               ([("held", "inn", 1), ("held", "mill", 2), ("fell", "inn", Ratio(4 * BIG - 1, BIG))], [1, 2]),
                               ([("held", "mill", 1), ("fell", "inn", 3), ("held", "mill", 4)], [1, 2]),
                               ([("fell", "inn", 3), ("fell", "inn", 3), ("held", "inn", 4)], None)]:
            with self.subTest(sights=sights):
                self.assert_clash(book, sights)
                if places is not None:
                    self.assertEqual(clashing(book, sights), places)

    def test_an_account_that_never_falls(self):
        book = inn_book().with_inlet("inn", 2)
        self.assertEqual(shown(earliest(book, [("held", "inn", BIG)])), {"inn": None, "mill": "0"})
        self.assert_clash(book, [("held", "mill", 1), ("fell", "inn", 3)])
        self.assertEqual(clashing(book, [("held", "mill", 1), ("fell", "inn", 3)]), [1])
        alone = Book({"a": (1, 1)})
        self.assertEqual(earliest(alone, [("held", "a", 5)]), {"a": None})
        self.assert_clash(alone, [("fell", "a", 0)])
        self.assertEqual((amounts_for(Book({}), []), earliest(Book({}), []), clashing(Book({}), [])), ({}, {}, None))

    def test_an_account_that_holds_out_because_another_one_does(self):
        book = Book({"a": (0, 0), "b": (0, 0)}, [("a", "b", 3), ("b", "", 2)])
        # By the moment 4 b has got 4 more than it paid, and these last for two days more.
        self.assertEqual(shown(earliest(book, [("fell", "a", 4)])), {"a": "4", "b": "6"})
        self.assert_clash(book, [("fell", "a", 4), ("fell", "b", Ratio(6 * BIG - 1, BIG))])
        self.assert_fit(book, [("fell", "a", 4), ("fell", "b", 7)], amounts_for(book, [("fell", "a", 4), ("fell", "b", 7)]))

    def test_an_account_that_falls_with_another_one_or_long_behind_it(self):
        # b gets just its wish from a: so it falls when a does, or later if it has money.
        book = Book({"a": (0, 0), "b": (0, 0)}, [("a", "b", 2), ("b", "", 2)])
        self.assertEqual(shown(earliest(book, [("held", "a", 3)])), {"a": "3", "b": "3"})
        self.assert_clash(book, [("held", "a", 3), ("fell", "b", 2)])
        self.assertEqual(shown(amounts_for(book, [("held", "a", 3), ("fell", "b", 5)])), {"a": "6", "b": "4"})

    def test_rings(self):
        ring = Book({"a": (0, 0), "b": (0, 0)}, [("a", "b", 2), ("b", "a", 2), ("b", "", 1)])
        for sights in [[("held", "a", 5)], [("held", "b", 5)], [("fell", "a", 2), ("fell", "b", 7)],
                       [("fell", "b", 2), ("fell", "a", 7)], [("fell", "a", 2), ("fell", "b", 2)]]:
            amounts = amounts_for(ring, sights)
            if amounts is not None:
                self.assert_fit(ring, sights, amounts)
            else:
                self.assert_clash(ring, sights)

    def test_sights_that_are_true_of_drawn_amounts(self):
        source = dice(111)
        for _ in range(150):
            book = redrawn(source, any_book(source))
            sights = true_sights(source, book, 8)
            with self.subTest(book=book.text(), sights=shown(sights)):
                self.assert_fit(book, sights, amounts_for(book, sights))
                first = plain(earliest(book, sights))
                self.assertEqual(plain(moments_with(book, amounts_for(book, sights))), first)
                moments = plain(moments_with(book, amounts_of(book)))
                self.assertTrue(all(first[name] is None or first[name] <= moments[name] for name in first))

    def test_sights_changed_a_little(self):
        source = dice(112)
        clashes = 0
        for _ in range(200):
            book = redrawn(source, any_book(source))
            sights = true_sights(source, book, 6)
            if sights:
                sights = altered(source, sights)
                with self.subTest(book=book.text(), sights=shown(sights)):
                    amounts = amounts_for(book, sights)
                    if amounts is None:
                        clashes += 1
                        self.assert_clash(book, sights)
                        self.assertFalse(model_fits(book, sights, amounts_of(book)))
                    else:
                        self.assert_fit(book, sights, amounts)
        self.assertTrue(20 < clashes < 150, clashes)

    def test_against_a_lot_of_amounts(self):
        source = dice(113)
        fitting = 0
        for _ in range(40):
            book = any_book(source, 1, 3)
            sights = true_sights(source, redrawn(source, book, 3), 3)
            sights = altered(source, sights) if sights and source.random() < 0.4 else sights
            found = amounts_for(book, sights)
            first = None if found is None else plain(earliest(book, sights))
            steps = [0, HALF, 1, Ratio(3, 2), 2, 3]
            for numbers in product(*[steps for _ in book.names()]):
                amounts = dict(zip(book.names(), numbers))
                if model_fits(book, sights, amounts):
                    fitting += 1
                    moments = plain(moments_with(book, amounts))
                    self.assertIsNotNone(found)
                    self.assertTrue(all(first[name] is None or first[name] <= moments[name] for name in first))
        self.assertGreater(fitting, 100)

    def test_no_account_falls_earlier_than_without_what_it_was_seen_to_do(self):
        source = dice(114)
        for _ in range(60):
            book = redrawn(source, any_book(source))
            sights = true_sights(source, book, 6)
            more = [*sights, *true_sights(source, book, 3)]
            fewer, first = plain(earliest(book, sights)), plain(earliest(book, more))
            self.assertTrue(all(first[name] is None or fewer[name] <= first[name] for name in first))


class VerdictTest(SightCase):
    def test_a_small_book(self):
        book = inn_book()
        seen = [("held", "mill", 1), ("fell", "inn", 3)]
        for name, moment, expected in [("mill", 0, "late"), ("mill", 1, "late"), ("mill", Ratio(BIG + 1, BIG), "open"),
                                       ("mill", Ratio(3, 2), "open"), ("mill", 4, "early"), ("inn", 3, "late"),
                                       ("inn", Ratio(3 * BIG + 1, BIG), "early"), ("inn", HALF, "late")]:
            with self.subTest(name=name, moment=shown(moment)):
                self.assertEqual(verdict(book, seen, name, moment), expected)
        # If the inn has nothing at first, it falls at the moment 3 only if the mill falls at 3/2: no later one is possible.
        self.assertEqual(verdict(book, seen, "mill", Ratio(3, 2)), "open")
        self.assertEqual(verdict(book, seen, "mill", Ratio(3 * BIG + 2, 2 * BIG)), "early")
        self.assertEqual([verdict(book, [], "mill", moment) for moment in [0, Ratio(1, BIG), FAR]], ["late", "open", "open"])

    def test_an_account_that_never_falls(self):
        book = inn_book().with_inlet("inn", 2)
        self.assertEqual([verdict(book, [], "inn", moment) for moment in [0, 1, FAR]], ["late"] * 3)

    def test_ahead_of_a_fall_at_it_and_behind_it(self):
        source = dice(115)
        seen = {"early": 0, "late": 0, "open": 0}
        for _ in range(100):
            book = redrawn(source, any_book(source))
            sights = true_sights(source, book, 6)
            name = source.choice(book.names())
            moment = fall_of(book, name)
            if moment is not None:
                for days in [moment * HALF, moment, moment + TINY, moment + 1]:
                    with self.subTest(book=book.text(), sights=shown(sights), name=name, days=shown(days)):
                        found = verdict(book, sights, name, days)
                        seen[found] += 1
                        self.assert_verdict(book, sights, name, days, found)
                        # The amounts of the book fit, too.
                        self.assertNotEqual(found, "early" if days <= moment else "late")
        self.assertTrue(min(seen.values()) > 20, seen)

    def assert_verdict(self, book, sights, name, days, found):
        """Amounts show what an account can do; what it cannot do is sure by its earliest moment or by a clash."""
        first = earliest(book, sights)[name]
        self.assertEqual(plain(moments_with(book, amounts_for(book, sights))[name]), plain(first))
        later = amounts_for(book, [*sights, ("held", name, days)])
        if later is not None:
            self.assertTrue(model_fits(book, sights, later))
            self.assertTrue(days <= moments_with(book, later)[name])
        expected = "late" if days <= first else "early" if later is None else "open"
        self.assertEqual(found, expected)

    def test_against_a_lot_of_amounts(self):
        source = dice(116)
        for _ in range(30):
            book = any_book(source, 1, 3)
            drawn = redrawn(source, book, 3)
            sights = true_sights(source, drawn, 3)
            name = source.choice(book.names())
            days = fall_of(drawn, name) or 1
            told = verdict(book, sights, name, days)
            for numbers in product(*[[0, HALF, 1, Ratio(3, 2), 2, 3] for _ in book.names()]):
                amounts = dict(zip(book.names(), numbers))
                if model_fits(book, sights, amounts):
                    moment = moments_with(book, amounts)[name]
                    before = moment is not None and moment < days
                    self.assertTrue(told == "open" or before == (told == "early"))

    def test_errors_in_their_order(self):
        book = inn_book()
        clash = [("held", "mill", 1), ("fell", "mill", 0)]
        for value in no_accounts(book):
            self.assert_raises(NoAccount, value, verdict, book, clash, value, -1)
            self.assert_raises(NoAccount, value, verdict, book, [], value, 1)
        for value in NO_UNSIGNED:
            self.assert_raises(BadDays, value, verdict, book, clash, "inn", value)
            self.assert_raises(BadDays, value, verdict, book, [], "inn", value)
        self.assertRaises(Clash, verdict, book, clash, "inn", 0)
        self.assert_raises(BadSight, 5, verdict, book, [*clash, 5], "nobody", -1)


class ArgumentTest(SightCase):
    def test_by_name_and_as_tuples(self):
        book = inn_book()
        sights = (("fell", "mill", 2), ("held", "inn", 4))
        self.assertIs(is_sight(value=sights[0], book=book), True)
        self.assertIs(fits_sights(amounts={"inn": 0, "mill": 6}, sights=sights, book=book), True)
        self.assertEqual(shown(amounts_for(sights=sights, book=book)), {"inn": "0", "mill": "6"})
        self.assertEqual(shown(earliest(sights=sights, book=book)), {"inn": "4", "mill": "2"})
        self.assertEqual(verdict(moment=3, name="mill", sights=sights, book=book), "early")
        self.assertIsNone(clashing(sights=sights, book=book))
        self.assertEqual(clashing(book, (*sights, ("fell", "inn", 3))), [1, 2])

    def test_nothing_that_was_passed_in_is_changed_and_what_is_returned_is_new(self):
        book = inn_book()
        sights, amounts = [("fell", "mill", 2), ("held", "inn", 4)], {"mill": 6, "inn": 0}
        text = book.text()
        for call in [lambda: amounts_for(book, sights), lambda: earliest(book, sights),
                     lambda: clashing(book, [*sights, ("fell", "inn", 3)])]:
            kept = shown(call())
            call().clear()
            self.assertEqual(shown(call()), kept)
        fits_sights(book, sights, amounts), verdict(book, sights, "mill", 3)
        self.assertEqual((sights, list(amounts.items())), ([("fell", "mill", 2), ("held", "inn", 4)], [("mill", 6), ("inn", 0)]))
        self.assertEqual(book.text(), text)

    def test_numbers_of_60_digits(self):
        source = dice(117)
        for whole in [True, True, False]:
            book = great_book(source, whole)
            moments = {name: moment for moment, names in falls(book) for name in names}
            sights = [("fell" if source.random() < 0.4 else "held", name, moments[name]) for name in book.names()]
            sights.extend(("held", name, moments[name] * HALF) for name in book.names())
            amounts = amounts_for(book, sights)
            self.assert_fit(book, sights, amounts)
            self.assertEqual(plain(moments_with(book, amounts)), plain(earliest(book, sights)))
            name = book.names()[3]
            self.assertEqual(verdict(book, sights, name, earliest(book, sights)[name]), "late")
            moment = moments[name] * Ratio(BIG + 1, BIG)
            self.assert_clash(book, [*sights, ("fell", name, moments[name]), ("held", name, moment)])


class ExampleTest(SightCase):
    def test_the_example_of_the_interface(self):
        book = Book({"mill": (0, 0), "inn": (0, Ratio(1, 2))}, [("mill", "inn", 3), ("inn", "", 2)])
        found = amounts_for(book, [("fell", "mill", 2), ("held", "inn", 4)])
        self.assertEqual([(name, amount.text()) for name, amount in found.items()], [("inn", "0"), ("mill", "6")])
        self.assertIs(fits_sights(book, [("fell", "inn", 4)], {"inn": 0, "mill": 6}), True)
        self.assertEqual([moment.text() for moment in earliest(book, [("held", "inn", 4)]).values()], ["4", "0"])
        seen = [("held", "mill", 1), ("fell", "inn", 3)]
        self.assertEqual([verdict(book, seen, "mill", moment) for moment in [1, Ratio(3, 2), 4]], ["late", "open", "early"])
        self.assertEqual(clashing(book, [*seen, ("held", "mill", 4)]), [1, 2])
        self.assertIsNone(amounts_for(book, [*seen, ("held", "mill", 4)]))
        wrong = ("fell", "mill")
        self.assert_raises(BadSight, wrong, earliest, book, [wrong])


if __name__ == "__main__":
    unittest.main()
