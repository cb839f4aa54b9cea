"""What is promised over the whole program: kinds, repeats, limits, the interface."""

import copy
import importlib
import inspect
import unittest

from tests.helper import Held
from toldparts.errors import NoAsk, NoParts, NoPlace, NoRow, NoShares, PartError

TWELVE = (1, 2, 3, 5, 8, 13, 21, 34, 37, 38, 39, 40)
GREATEST = tuple(range(29, 41))
SHARES = tuple([(1, 12)] * 12)
UNLIKE = ((999937, 999983), (46, 999983))
FAR = 10 ** 100
ROW = (40, 1, 39, 2, 1) * 60
NEAR_ROW = (40, 1, 39, 2, 1) * 3

# The modules of the interface, their functions, and for each of these arguments that are let,
# the greatest among them, and arguments that are refused.
FUNCTIONS = {
    "rows.texts": {
        "read_parts": [("5 1 2",), ("40 39 38 37 36 35 34 33 32 31 30 29",), ("1 1",), ("",), ("x" * 1200,)],
        "read_row": [((1, 2), "2 1"), ((1, 40), "40 " * 399 + "1"), ((1, 2), ""), ((1, 2), "3")],
        "numbers_shown": [((),), (ROW,), (TWELVE,)],
        "is_row": [(TWELVE, sum(ROW), ROW), ((1, 2), 3, (1, 2)), ((1, 2), 3, (FAR, -FAR)), ((1,), 0, ())],
    },
    "counts.near": {
        "count_rows": [(TWELVE, 300), (GREATEST, 300), ((1,), 0)],
        "counts_to": [(TWELVE, 300), (GREATEST, 300), ((1,), 0)],
        "far_count": [(TWELVE, 10 ** 18, 10 ** 9), (GREATEST, 10 ** 18 - 1, 10 ** 9), ((1,), 0, 1)],
    },
    "rows.ordered": {
        "nth_row": [(TWELVE, 300, 10 ** 40), ((1, 2), 4, 4), ((1, 2), 4, 5), ((1, 2), 4, -1), (TWELVE, 300, FAR)],
        "place_of": [(TWELVE, NEAR_ROW), ((1,), (1,) * 300), ((1, 2), ()), ((1, 2), (1, 3)), (GREATEST, ROW)],
        "next_row": [(TWELVE, NEAR_ROW), ((1,), (1,) * 300), ((1, 2), ()), ((1, 2), (1, 3)), (GREATEST, ROW)],
    },
    "counts.bounds": {
        "count_with": [(TWELVE, 300, 60), (TWELVE, 300, FAR), ((2,), 3, 1)],
        "counts_by_many": [(TWELVE, 300), (GREATEST, 300), ((2,), 3)],
        "count_bounded": [
            (TWELVE, 100, (10 ** 6,) * 12), (tuple(range(1, 13)), 100, (9,) * 12), (GREATEST, 100, (0,) * 12),
        ],
        "count_apart": [(TWELVE, 300), (GREATEST, 300), ((2,), 3)],
    },
    "rows.rings": {
        "least_turn": [(TWELVE, ROW), ((1,), (1,) * 300), ((1, 2), ()), ((1, 2), (1, 3))],
        "how_many_turns": [(TWELVE, ROW), ((1,), (1,) * 300), ((1, 2), ()), ((1, 2), (1, 3))],
        "count_rings": [(TWELVE, 300), (GREATEST, 300), ((2,), 3)],
        "all_rings": [(tuple(range(1, 13)), 16), (TWELVE, 16), (GREATEST, 16)],
    },
    "shares.averages": {
        "averages": [(TWELVE, 300), (GREATEST, 300), ((2,), 3), ((2,), 0)],
        "likeliest_many": [(TWELVE, 300), (GREATEST, 300), ((2,), 3), ((2,), 0)],
    },
    "shares.chances": {
        "chance_of": [(TWELVE, SHARES, 300), (GREATEST, SHARES, 300), ((1, 40), UNLIKE, 300), ((1,), SHARES, 0)],
        "likeliest_row": [(TWELVE, SHARES, 300), (GREATEST, SHARES, 300), ((2, 40), UNLIKE, 299), ((1,), SHARES, 0)],
    },
    "counts.none": {
        "divisor_of": [(TWELVE,), (GREATEST,), ((40,),)],
        "none_to": [(TWELVE, 300), (GREATEST, 300), ((2,), 0)],
        "greatest_none": [(TWELVE,), (GREATEST,), ((39, 40),), ((2,),)],
        "fewest": [(TWELVE, 300), (GREATEST, 300), ((2,), 3), ((2,), 0)],
    },
}
CLASSES = {
    "errors": {"PartError": [], "NoShares": [], "NoPlace": [], "NoAsk": [], "NoParts": [], "NoRow": []},
    "kept": {"KeptParts": ["put_part", "take_part", "parts_now", "count_now", "none_now"]},
    "whole": {"Desk": ["ask"]},
}


def told(asked, arguments):
    """What is told, or the kind of its refusal and its place."""
    try:
        return asked(*arguments)
    except PartError as refusal:
        return type(refusal), getattr(refusal, "place", None)


class OverTheWhole(Held):
    def each_asked(self):
        for module, functions in FUNCTIONS.items():
            for name, given in functions.items():
                asked = getattr(importlib.import_module("toldparts." + module), name)
                for arguments in given:
                    yield name, asked, arguments

    def no_truths(self, thing):
        if type(thing) in (tuple, list):
            for inner in thing:
                self.no_truths(inner)
        else:
            self.assertIn(type(thing), (int, str, type(None)))

    def test_the_interface(self):
        for module, classes in CLASSES.items():
            for name, methods in classes.items():
                found = getattr(importlib.import_module("toldparts." + module), name)
                self.assertTrue(inspect.isclass(found))
                self.assertEqual(found.__module__, "toldparts." + module)
                for method in methods:
                    self.assertTrue(inspect.isfunction(vars(found)[method]), method)
        for name, asked, arguments in self.each_asked():
            self.assertTrue(inspect.isfunction(asked), name)
            self.assertEqual(len(inspect.signature(asked).parameters), len(arguments), name)

    def test_the_same_asked_again_is_answered_the_same(self):
        first = [told(asked, arguments) for name, asked, arguments in self.each_asked()]
        again = [told(asked, arguments) for name, asked, arguments in self.each_asked()]
        self.assertEqual(first, again)

    def test_alike_things_handed_in_are_answered_alike(self):
        for name, asked, arguments in self.each_asked():
            # Made anew, so that no answer hangs on which thing is handed in.
            anew = eval(repr(arguments))
            self.assertEqual(told(asked, anew), told(asked, arguments), name)

    def test_nothing_handed_in_is_changed(self):
        for name, asked, arguments in self.each_asked():
            kept = copy.deepcopy(arguments)
            told(asked, arguments)
            self.assertEqual(arguments, kept, name)

    def test_a_list_that_is_changed_changes_nothing(self):
        for name, asked, arguments in self.each_asked():
            answer = told(asked, arguments)
            if type(answer) is list:
                kept = list(answer)
                answer.append("more")
                answer.reverse()
                self.assertEqual(told(asked, arguments), kept, name)

    def test_numbers_are_no_truths(self):
        for name, asked, arguments in self.each_asked():
            answer = told(asked, arguments)
            if name == "is_row":
                self.assertIs(type(answer), bool)
            elif not inspect.isclass(answer[0] if type(answer) is tuple and answer else None):
                self.no_truths(answer)

    def test_each_refusal_is_met(self):
        met = set()
        for name, asked, arguments in self.each_asked():
            answer = told(asked, arguments)
            if type(answer) is tuple and answer and inspect.isclass(answer[0]):
                met.add(answer[0])
        # Lines alone are refused with NoAsk.
        self.assertEqual(met | {NoAsk}, {NoShares, NoPlace, NoAsk, NoParts, NoRow})


if __name__ == "__main__":
    unittest.main()
