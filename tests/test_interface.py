"""The names, parameters and homes of what the interface lists for the files that have landed."""

import importlib
import inspect
import unittest

FUNCTIONS = {
    "paystreams.ratios": {
        "as_ratio": ["given"], "lesser": ["one", "other"], "greater": ["one", "other"], "total": ["numbers"],
        "raised": ["number", "exponent"],
    },
    "paystreams.systems": {
        "solved": ["rows", "right"], "inverse": ["rows"], "applied": ["rows", "numbers"], "least_place": ["numbers"],
        "weighed": ["numbers", "weights"],
    },
    "paystreams.rates": {
        "rates": ["book", "rich"], "inflows": ["book", "rich"], "short": ["book", "rich"],
        "stream_rates": ["book", "rich"],
        "is_table": ["book", "table"], "fits": ["book", "table", "rich"], "inflows_of": ["book", "table"],
        "feeds": ["book", "table"],
    },
    "paystreams.course": {
        "falls": ["book"], "fall_of": ["book", "name"], "later": ["book", "days"], "rates_at": ["book", "days"],
        "paid": ["book", "days"], "pieces": ["book", "name"], "settled": ["book"],
    },
    "paystreams.ends": {
        "end_rates": ["book"], "end_slopes": ["book"], "fallen": ["book"], "never_falls": ["book", "name"],
        "leaving": ["book"],
        "feeding_paper": ["book", "name"], "shows_holding": ["book", "name", "paper"],
        "weights_paper": ["book", "name"], "shows_falling": ["book", "name", "paper"],
        "gain_of": ["book", "paper"], "worth_of": ["book", "paper"], "latest_fall": ["book", "name", "paper"],
    },
    "paystreams.more": {
        "fall_curve": ["book", "name", "place"], "fall_with": ["book", "name", "place", "extra"],
        "least_extra": ["book", "name", "place", "days"], "end_curve": ["book", "name", "place"],
        "least_inlet": ["book", "name", "place"], "best_help": ["book", "names", "amount"],
    },
    "paystreams.causes": {
        "end_with": ["book", "helped"], "saved_by": ["book", "helped"], "help_needed": ["book", "helped"],
        "causes": ["book", "name"], "falls_alone": ["book", "name"], "least_help": ["book", "name"],
        "roots": ["book"],
        "hurt_by_cut": ["book", "start", "end"], "saved_by_cut": ["book", "start", "end"],
        "debtors": ["book", "name"],
    },
    "paystreams.twins": {
        "act_alike": ["one", "other"], "parting": ["one", "other"], "joined": ["book", "first", "second"],
        "greatest_inflow": ["book", "name"], "stays_dry": ["book", "name"], "taken_out": ["book", "name"],
        "thinned": ["book"],
    },
    "paystreams.seen": {
        "is_sight": ["book", "value"], "fits_sights": ["book", "sights", "amounts"],
        "amounts_for": ["book", "sights"], "earliest": ["book", "sights"],
        "verdict": ["book", "sights", "name", "moment"], "clashing": ["book", "sights"],
    },
    "paystreams.plans": {
        "is_plan": ["book", "value"], "with_plan": ["book", "plan", "days"], "plan_sum": ["plan"],
        "lacks": ["book", "plan", "name", "until"], "keeps": ["book", "plan", "names", "until"],
        "top_ups": ["book", "names", "moments", "until"],
    },
    "paystreams.desk": {"read_desk": ["text"]},
}
METHODS = {
    ("paystreams.ratios", "Ratio"): {
        "__init__": ["self", "top", "bottom"], "over": ["self", "number"], "text": ["self"],
    },
    ("paystreams.books", "Book"): {
        "__init__": ["self", "accounts", "streams"], "text": ["self"], "names": ["self"], "streams": ["self"],
        "amount": ["self", "name"], "inlet": ["self", "name"], "wish": ["self", "name"],
        "wish_of": ["self", "start", "end"],
        "paid_in": ["self", "name", "amount"], "drawn": ["self", "name", "amount"],
        "with_inlet": ["self", "name", "inlet"],
        "with_stream": ["self", "start", "end", "wish"], "without_stream": ["self", "start", "end"],
    },
    ("paystreams.desk", "Desk"): {
        "__init__": ["self"], "add": ["self", "name", "inlet"], "pay": ["self", "name", "amount"],
        "draw": ["self", "name", "amount"], "turn": ["self", "name", "inlet"],
        "stream": ["self", "start", "end", "wish"], "stop": ["self", "start", "end"], "wait": ["self", "days"],
        "now": ["self"], "book": ["self"], "flowed": ["self", "start", "end"], "fallen": ["self"],
        "next_fall": ["self"],
        "sums": ["self"], "undo": ["self"], "redo": ["self"], "trial": ["self"], "text": ["self"],
        "supposed": ["self", "text"],
    },
}
OTHERS = {
    ("paystreams.ratios", "Ratio"): [
        "read", "top", "bottom", "__add__", "__sub__", "__mul__", "__neg__", "__eq__", "__lt__", "__le__",
    ],
    ("paystreams.books", "Book"): ["read", "__len__", "__eq__"],
    ("paystreams.desk", "Desk"): ["__len__"],
}


def parameters(function):
    return list(inspect.signature(function).parameters)


class InterfaceTest(unittest.TestCase):
    def test_functions(self):
        for module, functions in FUNCTIONS.items():
            for name, expected in functions.items():
                with self.subTest(module=module, name=name):
                    function = getattr(importlib.import_module(module), name)
                    self.assertTrue(inspect.isfunction(function))
                    self.assertEqual(function.__module__, module)
                    self.assertEqual(parameters(function), expected)

    def test_methods_stand_in_the_class_itself(self):
        for (module, name), methods in METHODS.items():
            found = getattr(importlib.import_module(module), name)
            self.assertEqual(found.__module__, module)
            for method, expected in methods.items():
                with self.subTest(name=name, method=method):
                    self.assertEqual(parameters(vars(found)[method]), expected)
            for other in OTHERS[module, name]:
                self.assertIn(other, vars(found))

    def test_the_bottom_of_a_ratio_is_1_by_default(self):
        ratio = importlib.import_module("paystreams.ratios").Ratio
        self.assertEqual(inspect.signature(ratio).parameters["bottom"].default, 1)
        self.assertEqual(parameters(ratio.read), ["text"])

    def test_a_book_has_no_streams_by_default(self):
        book = importlib.import_module("paystreams.books").Book
        self.assertEqual(inspect.signature(book).parameters["streams"].default, ())
        self.assertEqual(parameters(book.read), ["text"])

    def test_the_rich_accounts_are_none_by_default(self):
        found = importlib.import_module("paystreams.rates")
        for name in ["rates", "inflows", "short", "stream_rates", "fits"]:
            self.assertIsNone(inspect.signature(getattr(found, name)).parameters["rich"].default)


if __name__ == "__main__":
    unittest.main()
