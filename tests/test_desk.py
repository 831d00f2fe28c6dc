"""Points 2 to 8 and 43 to 46: a desk."""

import unittest

from paystreams.books import Book
from paystreams.course import falls, later, paid
from paystreams.desk import Desk, read_desk
from paystreams.errors import (
    BadAmount, BadDays, BadInlet, BadLine, BadName, BadStream, InUse, NoAccount, NoStream, NothingToRedo, NothingToUndo,
    StreamError, TooMuch,
)
from paystreams.rates import short
from paystreams.ratios import Ratio, as_ratio
from tests.samples import (
    BIG, HUGE, NO_POSITIVE, NO_UNSIGNED, GivenCase, dice, no_accounts, plain, shown, some_part, values_of_every_kind,
)

HALF = Ratio(1, 2)
STEPS = ["add", "pay", "draw", "turn", "stream", "stop", "wait"]
TEXT = "add mill 0\nadd inn 1/2\npay mill 6\nstream mill inn 3\nstream inn - 2\nwait 3"


def inn_desk():
    return read_desk(TEXT)


def some_step(source, book):
    """A random step that a desk with this book can do, as a tuple of its name and its arguments."""
    names, streams = book.names(), book.streams()
    free = [name for name in ["bob", "ann", "g", "mill", "abcdefgh"] if name not in names]
    kind = source.choice(["stream", *STEPS] if free else ["stream", *STEPS[1:]])
    if kind == "add" or len(names) < 2:
        return "add", source.choice(free), some_part(source, 2)
    name = source.choice(names)
    if kind == "pay":
        return kind, name, some_part(source, 6)
    if kind == "draw":
        return kind, name, book.amount(name) * source.choice([0, HALF, 1])
    if kind == "turn":
        return kind, name, some_part(source, 3)
    if kind == "stop" and streams:
        return kind, *source.choice(streams)[:2]
    if kind == "wait":
        moments = [moment for moment, _ in falls(book)]
        return kind, source.choice([*moments, 0, some_part(source, 3)])
    return "stream", name, source.choice([other for other in ["", *names] if other != name]), some_part(source, 3, 1)


def do(desk, step):
    return getattr(desk, step[0])(*step[1:])


def line_of(step):
    words = [word if isinstance(word, str) else as_ratio(word).text() for word in step]
    if step[0] in ("stream", "stop"):
        words[2] = words[2] or "-"
    return " ".join(words)


def some_steps(source, many):
    """A list of so many random steps that can be done one behind the other."""
    desk, found = Desk(), []
    for _ in range(many):
        step = some_step(source, desk.book())
        do(desk, step)
        found.append(step)
    return found


def state_of(desk):
    """All that a desk tells, and what can be taken back and done again."""
    places = [(start, end) for start in ["mill", "inn", *desk.book().names()] for end in ["", *desk.book().names()]]
    kept = [desk.now(), desk.book(), len(desk), [desk.flowed(start, end) for start, end in places], desk.fallen(),
            desk.next_fall(), desk.sums(), desk.text()]
    return kept


def history_of(desk):
    """The texts of a desk as all steps are taken back and done again; it is as before then."""
    size, redone, texts = len(desk), 0, []
    while True:
        try:
            desk.redo()
        except NothingToRedo:
            break
        redone += 1
    while len(desk) > 0:
        texts.append(desk.text())
        desk.undo()
    for _ in range(size):
        desk.redo()
    return size, redone, texts


class Model:
    """What a desk must tell, from the books that the steps make one by one."""

    def __init__(self):
        self.moment, self.book, self.flowed, self.came, self.drawn = Ratio(0), Book({}), {}, 0, 0

    def do(self, step):
        kind, *given = step
        if kind == "add":
            accounts = {name: (self.book.amount(name), self.book.inlet(name)) for name in self.book.names()}
            self.book = Book({**accounts, given[0]: (0, given[1])}, self.book.streams())
        elif kind == "wait":
            for start, end, amount in paid(self.book, given[0]):
                self.flowed[start, end] = self.flowed.get((start, end), 0) + plain(amount)
            self.came += sum(plain(self.book.inlet(name)) for name in self.book.names()) * plain(given[0])
            self.book = later(self.book, given[0])
            self.moment = self.moment + given[0]
        else:
            method = {"pay": "paid_in", "draw": "drawn", "turn": "with_inlet", "stream": "with_stream",
                      "stop": "without_stream"}[kind]
            self.book = getattr(self.book, method)(*given)
            self.came += plain(given[1]) if kind == "pay" else 0
            self.drawn += plain(given[1]) if kind == "draw" else 0


class DeskCase(GivenCase):
    def assert_as_the_model(self, desk, model, steps):
        self.assertEqual((desk.now(), desk.book(), len(desk)), (model.moment, model.book, len(steps)))
        self.assertEqual(desk.text(), "\n".join(line_of(step) for step in steps))
        self.assertEqual(desk.fallen(), short(model.book))
        nexts = [(model.moment + moment, names) for moment, names in falls(model.book) if moment != 0]
        self.assertEqual(desk.next_fall(), nexts[0] if nexts else None)
        for start in model.book.names():
            for end in ["", *model.book.names()]:
                self.assertEqual(plain(desk.flowed(start, end)), model.flowed.get((start, end), 0))
        came, have, out, drawn = plain(desk.sums())
        self.assertEqual(came, have + out + drawn)
        self.assertEqual((came, drawn), (model.came, model.drawn))
        self.assertEqual(have, sum(plain(model.book.amount(name)) for name in model.book.names()))
        self.assertEqual(out, sum(amount for (_, end), amount in model.flowed.items() if end == ""))
        for number in [desk.now(), *desk.sums(), desk.flowed("ann", "bob"), *[fall[0] for fall in nexts[:1]]]:
            self.assertIsInstance(number, Ratio)

    def assert_unchanged(self, desk, error_class, call, *given):
        before, history = state_of(desk), history_of(desk)
        with self.assertRaises(error_class) as caught:
            call(*given)
        self.assertEqual((state_of(desk), history_of(desk)), (before, history))
        return caught.exception


class StepTest(DeskCase):
    def test_a_desk_without_steps(self):
        desk = Desk()
        self.assertEqual((desk.now(), desk.book(), len(desk), desk.text()), (0, Book({}), 0, ""))
        self.assertEqual((desk.fallen(), desk.next_fall(), desk.flowed("mill", "inn")), ([], None, 0))
        self.assertEqual(shown(desk.sums()), ("0", "0", "0", "0"))
        self.assertIsInstance(desk.now(), Ratio)
        self.assertIs(type(desk.sums()), tuple)

    def test_each_step(self):
        desk = Desk()
        self.assertIsNone(desk.add("mill", 0))
        self.assertIsNone(desk.add("inn", HALF))
        self.assertEqual(desk.book(), Book({"mill": (0, 0), "inn": (0, HALF)}))
        self.assertIsNone(desk.pay("mill", 9))
        self.assertIsNone(desk.draw("mill", 3))
        self.assertIsNone(desk.stream("mill", "inn", 3))
        self.assertIsNone(desk.stream("inn", "", 1))
        self.assertIsNone(desk.stream("inn", "", 2))
        book = Book({"mill": (6, 0), "inn": (0, HALF)}, [("mill", "inn", 3), ("inn", "", 2)])
        self.assertEqual((desk.book(), len(desk), desk.now()), (book, 7, 0))
        self.assertIsNone(desk.wait(3))
        self.assertEqual((desk.book(), desk.now(), desk.fallen()), (later(book, 3), 3, ["mill"]))
        self.assertEqual(shown(desk.sums()), ("21/2", "3/2", "6", "3"))
        self.assertEqual(shown(desk.next_fall()), ("4", ["inn"]))
        self.assertIsNone(desk.turn("inn", 2))
        self.assertIsNone(desk.stop("mill", "inn"))
        self.assertEqual(desk.book(), Book({"mill": (0, 0), "inn": (Ratio(3, 2), 2)}, [("inn", "", 2)]))
        self.assertEqual((desk.fallen(), desk.next_fall(), desk.flowed("mill", "inn")), ([], None, 6))
        self.assertIsNone(desk.wait(2))
        self.assertEqual((desk.flowed("inn", ""), desk.flowed("mill", "inn"), desk.now()), (10, 6, 5))
        self.assertEqual(shown(desk.sums()), ("29/2", "3/2", "10", "3"))

    def test_no_days_and_no_money(self):
        desk = inn_desk()
        before = state_of(desk)
        desk.wait(0), desk.pay("mill", 0), desk.draw("mill", 0), desk.turn("inn", HALF)
        self.assertEqual(len(desk), 10)
        for _ in range(4):
            desk.undo()
        self.assertEqual(state_of(desk), before)

    def test_next_fall_is_behind_now(self):
        desk = Desk()
        desk.add("a", 0), desk.add("b", 0), desk.stream("a", "", 1), desk.stream("b", "", 1), desk.pay("b", 5)
        self.assertEqual((desk.fallen(), shown(desk.next_fall())), (["a"], ("5", ["b"])))
        desk.wait(2)
        self.assertEqual((desk.fallen(), shown(desk.next_fall())), (["a"], ("5", ["b"])))
        desk.wait(3)
        self.assertEqual((desk.fallen(), desk.next_fall()), (["a", "b"], None))
        desk.pay("a", 1), desk.pay("b", 1)
        self.assertEqual((desk.fallen(), shown(desk.next_fall())), ([], ("6", ["a", "b"])))

    def test_what_flowed_in_a_stream_that_was_stopped_and_begun_again(self):
        desk = inn_desk()
        desk.stop("mill", "inn"), desk.wait(1)
        self.assertEqual((desk.flowed("mill", "inn"), desk.flowed("inn", "")), (6, 8))
        desk.pay("mill", 2), desk.stream("mill", "inn", 1), desk.wait(5)
        self.assertEqual(desk.flowed("mill", "inn"), 8)

    def test_nothing_has_flowed_between_other_values(self):
        desk = inn_desk()
        values = [*values_of_every_kind(), "inn", "-", ("mill", "inn"), ["mill"], b"mill"]
        for one in values:
            for other in values:
                if (one, other) not in [("mill", "inn"), ("inn", "")]:
                    found = desk.flowed(one, other)
                    self.assertIsInstance(found, Ratio)
                    self.assertEqual(found, 0)

    def test_random_steps(self):
        source = dice(130)
        kinds = {}
        for _ in range(60):
            desk, model, steps = Desk(), Model(), []
            for step in some_steps(source, 14):
                before = steps[-1][0] if steps else ""
                kinds[before, step[0]] = True
                self.assertIsNone(do(desk, step))
                model.do(step)
                steps.append(step)
                self.assert_as_the_model(desk, model, steps)
        self.assertEqual([(one, two) for one in STEPS for two in STEPS if (one, two) not in kinds], [])


class WrongStepTest(DeskCase):
    def test_add(self):
        desk = inn_desk()
        for value in ["", "abcdefghi", "Mill", "mi ll", "-", "m1", None, True, 0, Ratio(1), [], ["a"], (), {}, {"a": 1}]:
            for inlet in [0, -1, None]:
                self.assertIs(self.assert_unchanged(desk, BadName, desk.add, value, inlet).given, value)
        for name in ["mill", "inn"]:
            for inlet in [0, -1, None]:
                self.assertIs(self.assert_unchanged(desk, InUse, desk.add, name, inlet).given, name)
        for value in NO_UNSIGNED:
            self.assertIs(self.assert_unchanged(desk, BadInlet, desk.add, "barn", value).given, value)

    def test_pay_draw_and_turn(self):
        desk = inn_desk()
        for call, error_class in [(desk.pay, BadAmount), (desk.draw, BadAmount), (desk.turn, BadInlet)]:
            for value in no_accounts(desk.book()):
                self.assertIs(self.assert_unchanged(desk, NoAccount, call, value, -1).given, value)
                self.assertIs(self.assert_unchanged(desk, NoAccount, call, value, 0).given, value)
            for value in NO_UNSIGNED:
                self.assertIs(self.assert_unchanged(desk, error_class, call, "inn", value).given, value)
        for value in [2, Ratio(3 * BIG + 1, 2 * BIG), BIG]:
            self.assertIs(self.assert_unchanged(desk, TooMuch, desk.draw, "inn", value).given, value)
        desk.draw("inn", Ratio(3, 2))
        self.assertEqual(desk.book().amount("inn"), 0)

    def test_stream_and_stop(self):
        desk = inn_desk()
        wrong = [("mill", "mill", 1), ("barn", "inn", 1), ("mill", "barn", 1), ("mill", "-", 1), ("", "inn", 1)]
        wrong.extend(("mill", "inn", value) for value in NO_POSITIVE)
        wrong.extend((value, "inn", 1) for value in no_accounts(desk.book()))
        wrong.extend(("inn", value, 1) for value in no_accounts(desk.book()) if value != "")
        for given in wrong:
            told = self.assert_unchanged(desk, BadStream, desk.stream, *given).given
            self.assertEqual((type(told), [id(part) for part in told]), (tuple, [id(part) for part in given]))
        for given in [("inn", "mill"), ("mill", ""), ("mill", "-"), ("", "mill"), ("barn", "inn"), *[part[:2] for part in wrong]]:
            if given != ("mill", "inn"):
                told = self.assert_unchanged(desk, NoStream, desk.stop, *given).given
                self.assertEqual((type(told), [id(part) for part in told]), (tuple, [id(part) for part in given]))

    def test_wait(self):
        desk = inn_desk()
        for value in NO_UNSIGNED:
            self.assertIs(self.assert_unchanged(desk, BadDays, desk.wait, value).given, value)
            self.assert_raises(BadDays, value, Desk().wait, value)

    def test_what_was_taken_back_can_be_done_again_behind_a_wrong_step(self):
        desk = inn_desk()
        desk.undo(), desk.undo()
        self.assert_unchanged(desk, NoAccount, desk.pay, "barn", 1)
        self.assert_unchanged(desk, TooMuch, desk.draw, "mill", 7)
        desk.redo(), desk.redo()
        self.assertEqual(desk.text(), TEXT)


class UndoTest(DeskCase):
    def test_nothing_to_undo_or_to_redo(self):
        desk = Desk()
        self.assertRaises(NothingToUndo, desk.undo)
        self.assertRaises(NothingToRedo, desk.redo)
        desk.add("mill", 0)
        self.assertRaises(NothingToRedo, desk.redo)
        self.assertIsNone(desk.undo())
        self.assertRaises(NothingToUndo, desk.undo)
        self.assertIsNone(desk.redo())
        self.assertRaises(NothingToRedo, desk.redo)
        self.assertEqual(desk.text(), "add mill 0")

    def test_all_steps_back_and_again(self):
        source = dice(131)
        for _ in range(25):
            desk, states = Desk(), []
            for step in some_steps(source, 9):
                states.append(state_of(desk))
                do(desk, step)
            last = state_of(desk)
            for state in reversed(states):
                desk.undo()
                self.assertEqual(state_of(desk), state)
            self.assertRaises(NothingToUndo, desk.undo)
            for state in [*states[1:], last]:
                desk.redo()
                self.assertEqual(state_of(desk), state)
            self.assertRaises(NothingToRedo, desk.redo)

    def test_a_step_in_between(self):
        desk = inn_desk()
        desk.undo(), desk.undo(), desk.undo(), desk.redo()
        desk.wait(HALF)
        self.assertRaises(NothingToRedo, desk.redo)
        self.assertEqual(desk.text(), "add mill 0\nadd inn 1/2\npay mill 6\nstream mill inn 3\nwait 1/2")
        desk.undo(), desk.redo()
        self.assertEqual(desk.now(), HALF)
        desk.undo(), desk.undo()
        self.assertEqual(desk.text(), "add mill 0\nadd inn 1/2\npay mill 6")

    def test_undo_and_redo_are_no_steps(self):
        desk = inn_desk()
        desk.undo()
        self.assertEqual((len(desk), desk.text()), (5, TEXT.rpartition("\n")[0]))
        desk.redo()
        self.assertEqual((len(desk), desk.text()), (6, TEXT))


class TrialTest(DeskCase):
    def test_a_trial_that_ends_well(self):
        desk = inn_desk()
        before, history = state_of(desk), history_of(desk)
        with desk.trial():
            desk.wait(5), desk.pay("inn", 1), desk.undo(), desk.undo(), desk.undo()
            self.assertEqual((desk.now(), len(desk)), (0, 5))
            desk.add("barn", 3)
        self.assertEqual((state_of(desk), history_of(desk)), (before, history))

    def test_a_trial_that_an_error_ends(self):
        desk = inn_desk()
        desk.undo()
        before, history = state_of(desk), history_of(desk)
        for wrong, error_class in [(lambda: desk.draw("inn", BIG), TooMuch), (lambda: 1 // 0, ZeroDivisionError),
                                   (lambda: desk.redo(), NothingToRedo)]:
            with self.assertRaises(error_class):
                with desk.trial():
                    desk.wait(1)
                    desk.stop("inn", "")
                    wrong()
            self.assertEqual((state_of(desk), history_of(desk)), (before, history))
        desk.redo()
        self.assertEqual(desk.text(), TEXT)

    def test_what_was_taken_back_can_be_done_again_behind_a_trial(self):
        desk = inn_desk()
        desk.undo(), desk.undo()
        with desk.trial():
            desk.redo(), desk.redo()
            self.assertEqual(desk.text(), TEXT)
            self.assertRaises(NothingToRedo, desk.redo)
        self.assertEqual(len(desk), 4)
        desk.redo(), desk.redo()
        self.assertEqual(desk.text(), TEXT)

    def test_trials_inside_of_one_another(self):
        desk = inn_desk()
        before, history = state_of(desk), history_of(desk)
        with desk.trial():
            desk.wait(1)
            inner = state_of(desk), history_of(desk)
            with self.assertRaises(NoAccount):
                with desk.trial():
                    desk.undo(), desk.undo(), desk.add("barn", 1)
                    with desk.trial():
                        desk.undo(), desk.undo()
                    self.assertEqual(desk.text().split("\n")[-1], "add barn 1")
                    desk.pay("nobody", 1)
            self.assertEqual((state_of(desk), history_of(desk)), inner)
            desk.pay("inn", 3)
        self.assertEqual((state_of(desk), history_of(desk)), (before, history))

    def test_one_trial_that_is_used_again_and_inside_of_itself(self):
        desk = inn_desk()
        trial = desk.trial()
        desk.wait(1)
        before, history = state_of(desk), history_of(desk)
        for _ in range(2):
            with trial:
                desk.pay("mill", 1)
                inner = state_of(desk)
                with trial:
                    desk.undo(), desk.undo(), desk.undo()
                self.assertEqual(state_of(desk), inner)
            self.assertEqual((state_of(desk), history_of(desk)), (before, history))

    def test_random_steps_in_a_trial(self):
        source = dice(132)
        for _ in range(25):
            steps = some_steps(source, 12)
            desk = Desk()
            for step in steps[:6]:
                do(desk, step)
            for _ in range(source.randint(0, 3)):
                desk.undo()
            before, history = state_of(desk), history_of(desk)
            with desk.trial():
                for _ in range(20):
                    try:
                        source.choice([desk.undo, desk.redo, lambda: do(desk, some_step(source, desk.book()))])()
                    except StreamError:
                        pass
            self.assertEqual((state_of(desk), history_of(desk)), (before, history))


class TextTest(DeskCase):
    def test_texts(self):
        desk = Desk()
        steps = [("add", "mill", 0), ("add", "inn", Ratio(2, 4)), ("pay", "mill", Ratio(6)), ("stream", "mill", "inn", 3),
                 ("stream", "inn", "", Ratio(1, 3)), ("draw", "mill", BIG * 0), ("wait", Ratio(1, BIG)),
                 ("turn", "inn", Ratio(5, 7)), ("stop", "inn", ""), ("stop", "mill", "inn")]
        lines = ["add mill 0", "add inn 1/2", "pay mill 6", "stream mill inn 3", "stream inn - 1/3", "draw mill 0",
                 f"wait 1/{BIG}", "turn inn 5/7", "stop inn -", "stop mill inn"]
        for place, step in enumerate(steps):
            do(desk, step)
            self.assertEqual(desk.text(), "\n".join(lines[:place + 1]))
        self.assertEqual(state_of(read_desk(desk.text())), state_of(desk))

    def test_random_texts(self):
        source = dice(133)
        for _ in range(40):
            steps = some_steps(source, 10)
            desk = Desk()
            for step in steps:
                do(desk, step)
            text = desk.text()
            found = read_desk(text)
            self.assertIs(type(found), Desk)
            self.assertEqual((state_of(found), history_of(found)), (state_of(desk), history_of(desk)))
            cut = source.randint(0, len(steps))
            first, rest = "\n".join(text.split("\n")[:cut]), "\n".join(text.split("\n")[cut:])
            part = read_desk(first)
            before, history = state_of(part), history_of(part)
            self.assertEqual(part.supposed(rest), (desk.now(), desk.book()))
            self.assertEqual((state_of(part), history_of(part)), (before, history))

    def test_all_steps_of_a_text_can_be_taken_back(self):
        desk = inn_desk()
        for many in range(6, 0, -1):
            self.assertEqual(len(desk), many)
            desk.undo()
        self.assertEqual((len(desk), desk.text(), desk.now()), (0, "", 0))
        self.assertEqual((len(read_desk("")), read_desk("").text()), (0, ""))

    def assert_bad_line(self, text, number):
        with self.subTest(text=text):
            with self.assertRaises(BadLine) as caught:
                read_desk(text)
            self.assertEqual((type(caught.exception.line), caught.exception.line), (int, number))
            desk = inn_desk()
            desk.undo()
            with desk.trial():
                for _ in range(5):
                    desk.undo()
                error = self.assert_unchanged(desk, BadLine, desk.supposed, text)
                self.assertEqual(error.line, number)

    def test_a_wrong_line_at_each_place(self):
        lines = TEXT.split("\n")
        wrong = ["", " ", "add", "add barn", "add barn 1 1", "add mill 0", "add Barn 0", "add barn -1", "add barn 2/4",
                 "add barn 01", "add barn +1", "add barn 1.5", "add barn x", "add barn ", " add barn 0", "add barn 0 ",
                 "add  barn 0", "Add barn 0", "pay", "pay mill", "pay barn 1", "pay mill -1", "pay mill 1/1", "pay mill 1 2",
                 "draw mill 7", "draw mill -1", "draw barn 0", "draw mill", "turn barn 1", "turn mill -1/2", "turn mill",
                 "stream mill inn", "stream mill inn 0", "stream mill inn -1", "stream mill mill 1", "stream mill barn 1",
                 "stream barn inn 1", "stream - inn 1", "stream mill  1", "stream mill inn 1 1", "stream mill -- 1",
                 "stop mill", "stop mill -", "stop inn mill", "stop mill ", "stop mill inn 3", "stop - mill", "wait",
                 "wait -1", "wait 1 1", "wait mill", "wait 2/2", "wait -0", "undo", "redo", "now", "trial", "text",
                 "supposed wait 1", "account mill 0 0", "_do mill", "undo 1", "Wait 1",
                 " 1", "sit 1", "take mill 1", "Pay mill 1", "wait mill 1", "turns mill 1", "add 1", "stop inn - 2",
                 "flow mill inn 1", "wait inn -", "book inn -", "wait\t1", "pay mill 6;"]
        for line in wrong:
            for place in range(2, len(lines) + 1):
                self.assert_bad_line("\n".join([*lines[:place], line, *lines[place:]]), place + 1)
        self.assert_bad_line("pay mill 6", 1)
        self.assert_bad_line("wait 1\nwait -1\nwait -1", 2)
        self.assert_bad_line("add mill 0\nwait -1", 2)

    def test_two_lines_exchanged(self):
        lines = TEXT.split("\n")
        for one in range(len(lines)):
            for other in range(one + 1, len(lines)):
                some = list(lines)
                some[one], some[other] = some[other], some[one]
                numbers = []
                desk = Desk()
                for number, line in enumerate(some, start=1):
                    kind, *words = line.split(" ")
                    words = ["" if word == "-" else word for word in words]
                    given = [Ratio.read(word) if word[:1].isdigit() else word for word in words]
                    try:
                        getattr(desk, kind)(*given)
                    except StreamError:
                        numbers.append(number)
                        break
                if numbers:
                    self.assert_bad_line("\n".join(some), numbers[0])
                else:
                    self.assertEqual(read_desk("\n".join(some)).text(), "\n".join(some))

    def test_line_feeds(self):
        self.assert_bad_line(TEXT + "\n", 7)
        self.assert_bad_line("\n" + TEXT, 1)
        self.assert_bad_line("\n", 1)
        self.assert_bad_line(TEXT.replace("\n", "\n\n", 1), 2)
        self.assert_bad_line(TEXT.replace("\n", "\r\n", 1), 1)

    def test_a_line_right_only_in_a_text_that_goes_on(self):
        self.assert_bad_line("add mill 0\nstream mill inn 3\nadd inn 1/2", 2)
        self.assert_bad_line("add mill 0\nstream mill - 3\nstop mill -\nstop mill -", 4)
        self.assert_bad_line("add mill 1\nstream mill - 3\nwait 1\ndraw mill 1/2", 4)


class SupposedTest(DeskCase):
    def test_a_small_desk(self):
        desk = inn_desk()
        desk.undo()
        before, history = state_of(desk), history_of(desk)
        moment, book = desk.supposed("wait 1\npay inn 1\nadd barn 2\nstream barn - 1")
        self.assertEqual((moment.text(), book.amount("inn").text(), book.names()), ("1", "5/2", ["barn", "inn", "mill"]))
        self.assertEqual(desk.supposed(""), (desk.now(), desk.book()))
        self.assertIs(type(desk.supposed("")), tuple)
        self.assertEqual((state_of(desk), history_of(desk)), (before, history))
        desk.redo()
        self.assertEqual(desk.text(), TEXT)

    def test_a_wrong_line_changes_nothing(self):
        desk = inn_desk()
        for text, number in [("wait 1\nwait 1\nwait x", 3), ("stop inn -\nstop inn -", 2), ("add mill 0", 1), ("wait 1\n", 2)]:
            self.assertEqual(self.assert_unchanged(desk, BadLine, desk.supposed, text).line, number)


class ArgumentTest(DeskCase):
    def test_by_name(self):
        desk = Desk()
        desk.add(inlet=0, name="mill"), desk.add(name="inn", inlet=HALF), desk.pay(amount=6, name="mill")
        desk.stream(wish=3, end="inn", start="mill"), desk.stream(end="", wish=2, start="inn"), desk.wait(days=3)
        self.assertEqual(desk.text(), TEXT)
        desk.draw(amount=1, name="inn"), desk.turn(inlet=1, name="inn"), desk.stop(end="inn", start="mill")
        self.assertEqual(desk.flowed(end="inn", start="mill"), 6)
        self.assertEqual((len(desk), desk.supposed(text="wait 1")[0], read_desk(text=TEXT).text()), (9, 4, TEXT))

    def test_what_is_returned_is_new(self):
        desk = inn_desk()
        desk.fallen().clear(), desk.next_fall()[1].clear()
        self.assertEqual((desk.fallen(), shown(desk.next_fall())), (["mill"], ("4", ["inn"])))

    def test_desks_do_not_touch_one_another(self):
        one, other = inn_desk(), inn_desk()
        one.wait(1), one.undo(), one.undo(), one.add("barn", 0)
        with one.trial():
            one.pay("barn", 3)
            self.assertEqual((other.text(), len(other)), (TEXT, 6))
        self.assertRaises(NothingToRedo, other.redo)

    def test_numbers_of_60_digits(self):
        source = dice(134)
        names = ["g", "ann", "bob", "mill", "inn", "aa", "abcdefgh"]
        for whole in [True, False]:
            def great():
                return Ratio(source.randint(HUGE, BIG), 1 if whole else source.randint(HUGE, BIG))

            desk = Desk()
            for name in names:
                desk.add(name, great() * Ratio(1, 1000)), desk.pay(name, great())
            places = [(start, end) for start in names for end in ["", *names] if start != end]
            for start, end in source.sample(places, 36 if whole else 20):
                desk.stream(start, end, great())
            for _ in range(3):
                moment, fallen = desk.next_fall()
                desk.wait(moment - desk.now())
                self.assertLessEqual({*fallen}, {*desk.fallen()})
                came, have, out, drawn = plain(desk.sums())
                self.assertEqual((came, drawn), (have + out, 0))
            found = read_desk(desk.text())
            self.assertEqual((found.book(), found.now(), found.sums()), (desk.book(), desk.now(), desk.sums()))

    def test_as_many_steps_as_a_text_can_tell(self):
        lines = ["add a 1", "add b 0", "stream a b 2", "stream b - 3", "pay a 1000"]
        text = "\n".join([*lines, *["wait 1"] * ((4000 - len("\n".join(lines))) // 7)])
        desk = read_desk(text)
        self.assertEqual((desk.now(), desk.text()), (text.count("wait"), text))
        self.assertGreater(text.count("wait"), 500)
        self.assertEqual(shown(desk.sums()[:1]), (str(1000 + text.count("wait")),))


class ExampleTest(DeskCase):
    def test_the_example_of_the_interface(self):
        desk = Desk()
        done = (desk.add("mill", 0), desk.add("inn", Ratio(1, 2)), desk.pay("mill", 6), desk.stream("mill", "inn", 3),
                desk.stream("inn", "", 2))
        self.assertEqual(done, (None,) * 5)
        seen = (desk.next_fall()[0].text(), desk.wait(3), desk.fallen(), desk.flowed("mill", "inn").text(),
                desk.book().amount("inn").text())
        self.assertEqual(seen, ("2", None, ["mill"], "6", "3/2"))
        self.assertEqual([number.text() for number in desk.sums()], ["15/2", "3/2", "6", "0"])
        self.assertEqual(desk.supposed("wait 1\npay inn 1")[1].amount("inn").text(), "1")
        self.assertEqual(desk.now().text(), "3")
        seen = (desk.undo(), desk.now().text(), desk.redo(), desk.text().split("\n")[-2:],
                read_desk(desk.text()).book() == desk.book())
        self.assertEqual(seen, (None, "0", None, ["stream inn - 2", "wait 3"], True))
        with self.assertRaises(BadLine) as caught:
            read_desk("add mill 0\nwait -1")
        self.assertEqual(caught.exception.line, 2)


if __name__ == "__main__":
    unittest.main()
