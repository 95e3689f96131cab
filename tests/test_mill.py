"""Promise 10.1, and of 0.1 to 0.3 what touches it: codes bettered in the chosen ways, over and over."""

import copy
import itertools
import unittest

from codemill.errors import BadCode, BadNames, Unsound
from codemill.fold import folded, is_folded
from codemill.mill import milled
from codemill.names import quickened
from codemill.prune import is_pruned, pruned
from codemill.sound import why
from codemill.swaps import is_swapped, swapped
from codemill.thread import is_threaded, threaded
from tests.helper import (
    BAD_GIVEN, UNSOUND, assert_refuses_codes, assert_tells_alike, code_of, kinds_of, loading_code, made_code, names_by_chance,
)

WAYS = ("fold", "thread", "prune", "swaps")
ONCE = {"fold": folded, "thread": threaded, "prune": pruned, "swaps": swapped}
IS_DONE = {"fold": is_folded, "thread": is_threaded, "prune": is_pruned, "swaps": is_swapped}
ALL_CHOICES = [dict(zip(WAYS, chosen)) for chosen in itertools.product((True, False), repeat=4)]
FAULTING = ("load", "clear", "add", "sub", "mul", "div", "rest", "less", "neg", "raise")

# Something to do for each way, and some that only comes up by another one.
MIXED = code_of(
    ("push", 1), ("iffalse", 1), ("load", "a"), ("load", "b"), ("swap", 2), ("swap", 2), ("load", "a"), "drop",
    ("jump", 2), ("label", 1), ("push", 3), "return", ("label", 2), ("jump", 3), "tell", ("label", 3), "add", "return",
)


class MillTest(unittest.TestCase):
    def assert_mills(self, code, choice, given=None, seeds=2):
        kept = copy.deepcopy(code)
        found = milled(code, **choice, given=given)
        self.assertEqual(kinds_of(code), kinds_of(kept))
        self.assertIs(type(found), list)
        self.assertIsNone(why(found))
        self.assertLessEqual(len(found), len(code))
        for way in WAYS:
            if choice.get(way, True):
                self.assertIs(IS_DONE[way](found), True, (way, code, found))
                self.assertEqual(kinds_of(ONCE[way](found)), kinds_of(found))
        if given is not None:
            self.assertEqual(kinds_of(quickened(found, given=given)), kinds_of(found))
        self.assertEqual(kinds_of(milled(found, **choice, given=given)), kinds_of(found))
        for row in found:
            self.assertTrue(row[0] not in FAULTING or row in code, row)
        for seed in range(seeds):
            names = {**{name: 5 - seed for name in given or ()}, **names_by_chance(seed)}
            assert_tells_alike(self, code, found, names)
        again = list(found)
        found.append("spoilt")
        self.assertEqual(kinds_of(milled(code, **choice, given=given)), kinds_of(again))
        return again

    def test_all_ways_by_themselves(self):
        found = self.assert_mills(MIXED, {})
        self.assertEqual([row[:2] for row in found], [("load", "a"), ("load", "b"), ("load", "a"), ("drop", None), ("add", None), ("return", None)])
        self.assertEqual(found, self.assert_mills(MIXED, dict.fromkeys(WAYS, True)))

    def test_with_names_given(self):
        found = self.assert_mills(MIXED, {}, ())
        self.assertEqual([row[:2] for row in found], [("load", "a"), ("load", "b"), ("add", None), ("return", None)])
        found = self.assert_mills(MIXED, {}, ("b",))
        self.assertEqual([row[:2] for row in found], [("load", "a"), ("quick", "b"), ("add", None), ("return", None)])
        found = self.assert_mills(MIXED, {}, ("a", "b", "zz"))
        self.assertEqual([row[:2] for row in found], [("quick", "a"), ("quick", "b"), ("add", None), ("return", None)])

    def test_each_way_alone(self):
        none = dict.fromkeys(WAYS, False)
        for way in WAYS:
            found = self.assert_mills(MIXED, {**none, way: True})
            self.assertEqual(kinds_of(found), kinds_of(ONCE[way](MIXED)), way)
            self.assertNotEqual(found, MIXED)
        found = self.assert_mills(MIXED, none, ())
        self.assertEqual(kinds_of(found), kinds_of(quickened(MIXED)))
        self.assertNotEqual(found, MIXED)
        found = self.assert_mills(MIXED, none, ("a",))
        self.assertEqual(kinds_of(found), kinds_of(quickened(MIXED, given=("a",))))

    def test_no_way_chosen(self):
        none = dict.fromkeys(WAYS, False)
        for code in [MIXED] + [made_code(seed) for seed in range(30)]:
            self.assertEqual(kinds_of(self.assert_mills(code, none)), kinds_of(code))

    def test_all_choices(self):
        for choice in ALL_CHOICES:
            for given in (None, (), ("a", "b")):
                self.assert_mills(MIXED, choice, given)

    def test_nothing_left_to_do(self):
        code = code_of(("load", "a"), ("iftrue", 1), ("load", "b"), "return", ("label", 1), ("push", 2), "return")
        for choice in ALL_CHOICES:
            for given in (None, ()):
                self.assertEqual(kinds_of(self.assert_mills(code, choice, given)), kinds_of(code))

    def test_what_comes_up_by_another_way(self):
        # The jump that is folded is threaded, what it leaps over goes, and then there is a group to fold.
        code = code_of(("push", 4), ("push", True), ("iftrue", 1), ("load", "a"), "return", ("label", 1), ("jump", 2), "tell", ("label", 2), "neg", "return")
        self.assertEqual([row[:2] for row in self.assert_mills(code, {})], [("push", -4), ("return", None)])
        # A jump to the next row keeps two groups of swaps apart.
        code = code_of(("load", "a"), ("load", "b"), ("swap", 2), ("jump", 1), ("label", 1), ("swap", 2), "return")
        self.assertEqual([row[:2] for row in self.assert_mills(code, {})], [("load", "a"), ("load", "b"), ("return", None)])
        # A fault that is gone takes its handler with it, by which another name is sure.
        code = code_of(
            ("push", 1), ("store", "a"), ("try", 1), ("load", "a"), "tell", "endtry", ("push", 2), ("store", "b"), ("jump", 2),
            ("label", 1), "tell", ("label", 2), ("load", "b"), "return",
        )
        found = self.assert_mills(code, {}, ())
        self.assertEqual([row[0] for row in found if row[1] == "b"], ["store", "quick"])

    def test_quick_just_if_names_are_given(self):
        for seed in range(40):
            code = loading_code(seed)
            quicks = sum(row[0] == "quick" for row in code)
            self.assertLessEqual(sum(row[0] == "quick" for row in milled(code)), quicks)
        code = code_of(("load", "a"), ("load", "a"), "add", "return")
        self.assertEqual(milled(code), code)
        self.assertEqual([row[0] for row in milled(code, given=())], ["load", "quick", "add", "return"])
        self.assertEqual([row[0] for row in milled(code, given=("a",))], ["quick", "quick", "add", "return"])

    def test_codes_made_by_chance(self):
        changed = 0
        for seed in range(120):
            code = loading_code(seed)
            for given in (None, (), ("a", "cd")):
                changed += self.assert_mills(code, {}, given) != code
        self.assertGreater(changed, 200)

    def test_codes_made_by_chance_in_some_ways(self):
        for seed in range(160):
            choice = ALL_CHOICES[seed % 16]
            self.assert_mills(loading_code(seed), choice, (None, (), ("b",))[seed % 3])

    def test_long_codes(self):
        for seed in range(30):
            code = made_code(seed, 120)
            if len(code) <= 150:
                self.assert_mills(code, {}, ())


class RefusalsTest(unittest.TestCase):
    def test_codes(self):
        assert_refuses_codes(self, milled)
        for given in ((), ["a"], ("b", "a")):
            assert_refuses_codes(self, lambda code: milled(code, given=given))
        assert_refuses_codes(self, lambda code: milled(code, fold=False, thread=False, prune=False, swaps=False))

    def test_given(self):
        for given in BAD_GIVEN:
            if given is None:
                continue
            kept = copy.deepcopy(given)
            for choice in ALL_CHOICES[::5]:
                with self.subTest(given=given), self.assertRaises(BadNames):
                    milled(MIXED, **choice, given=given)
            self.assertEqual(kinds_of(given), kinds_of(kept))
        with self.assertRaises(Unsound):
            milled(UNSOUND["end"], given=["a"])
        with self.assertRaises(BadCode):
            milled([], given=["a"])

    def test_all_but_the_code_by_name_alone(self):
        with self.assertRaises(TypeError):
            milled(MIXED, True)


if __name__ == "__main__":
    unittest.main()
