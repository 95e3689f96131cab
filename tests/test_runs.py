"""Promise 2.2, and of 0.1 to 0.3 what touches it: runs and walks, and what they refuse."""

import copy
import unittest

from codemill.errors import BadCode, BadNames, BadNumber, Unsound
from codemill.machine import Walk, run
from tests.helper import THINGS, UNSOUND, assert_refuses_codes, code_of, kinds_of, made_code, names_by_chance

BIG = 10 ** 18
SHORT = code_of(("push", 1), "tell", ("push", 2), "tell", ("push", 3), "return")
FAULTY = code_of(("push", 1), "tell", ("load", "a"), "return")
ENDLESS = code_of(("label", 0), ("push", 7), "tell", ("jump", 0))
GUARDED = code_of(("push", 4), ("try", 1), ("push", 5), ("store", "b"), ("load", "a"), "return", ("label", 1), "tell", "return")

BAD_NAMES = (
    {"": 1}, {"abcde": 1}, {"A": 1}, {"aB": 1}, {"a1": 1}, {"a b": 1}, {"_": 1}, {"\u00e9": 1}, {"a\n": 1}, {1: 1}, {None: 1},
    {("a",): 1}, {True: 1}, {"a": 1, "B": 2}, {"a": BIG + 1}, {"a": -BIG - 1}, {"a": []}, {"a": [1]}, {"a": ()}, {"a": {}},
    {"a": ""}, {"a": "a b"}, {"a": "ABCDEFGHI"}, {"a": "a1"}, {"a": "\u00e9"}, {"a": 1, "b": (1,)},
    {letter: 1 for letter in "abcdefghi"}, {letter * 2: 1 for letter in "abcdefghijkl"},
    [], (), [("a", 1)], "a", ["a"], ("a",), None, True, False, 0, 1, "", (("a", 1),),
)
GOOD_NAMES = (
    {}, {"a": 1}, {letter: 1 for letter in "abcdefgh"}, {"abcd": 1, "zzzz": 2}, {"a": BIG, "b": -BIG}, {"a": None},
    {"a": True, "b": False}, {"a": "Kind", "b": "ABCDEFGH", "c": "x"}, {"none": 0},
)
BAD_STEPS = (-1, 100001, 999999999999999, -999999999999999, True, False, None, "", "1", [], [1], (), (1,), {}, {1: 1})


class RunTest(unittest.TestCase):
    def test_steps(self):
        for steps, found in (
            (0, (("on",), [], 0)), (1, (("on",), [], 1)), (2, (("on",), [1], 2)), (4, (("on",), [1, 2], 4)),
            (5, (("on",), [1, 2], 5)), (6, (("value", 3), [1, 2], 6)), (7, (("value", 3), [1, 2], 6)),
            (100000, (("value", 3), [1, 2], 6)),
        ):
            with self.subTest(steps=steps):
                self.assertEqual(kinds_of(run(SHORT, {}, steps)), kinds_of(found))

    def test_steps_to_a_fault(self):
        self.assertEqual(run(FAULTY, {}, 2), (("on",), [1], 2))
        self.assertEqual(run(FAULTY, {}, 3), (("fault", "Unset", 102), [1], 3))
        self.assertEqual(run(FAULTY, {}, 4), (("fault", "Unset", 102), [1], 3))

    def test_a_fault_that_is_taken_is_one_step(self):
        self.assertEqual(run(GUARDED, {}, 100), (("value", 4), ["Unset"], 6))
        self.assertEqual(run(GUARDED, {}, 4), (("on",), [], 4))
        self.assertEqual(run(GUARDED, {}, 5), (("on",), ["Unset"], 5))

    def test_endless_codes(self):
        for steps in (0, 1, 2, 3, 5, 1000):
            self.assertEqual(run(ENDLESS, {}, steps), (("on",), [7] * ((steps + 1) // 3), steps))
        self.assertEqual(run(code_of(("label", 0), ("jump", 0)), {}, 100000), (("on",), [], 100000))
        turning = code_of(("label", 0), ("try", 1), ("load", "a"), "return", ("label", 1), "drop", ("jump", 0))
        self.assertEqual(run(turning, {}, 301), (("on",), [], 301))

    def test_bad_steps(self):
        for steps in BAD_STEPS:
            with self.subTest(steps=steps), self.assertRaises(BadNumber):
                run(SHORT, {}, steps)

    def test_names(self):
        for names in GOOD_NAMES:
            with self.subTest(names=names):
                self.assertEqual(run(SHORT, names, 100), (("value", 3), [1, 2], 6))
                self.assertEqual(kinds_of(Walk(SHORT, names).names()), kinds_of(names))

    def test_bad_names(self):
        for names in BAD_NAMES + tuple(thing for thing in THINGS if not (isinstance(thing, dict) and thing in ({}, {"a": 1}))):
            kept = copy.deepcopy(names)
            with self.subTest(names=names):
                with self.assertRaises(BadNames):
                    run(SHORT, names, 100)
                with self.assertRaises(BadNames):
                    Walk(SHORT, names)
                self.assertEqual(kinds_of(names), kinds_of(kept))

    def test_more_than_eight_names_may_come_to_be(self):
        rows = []
        for letter in "abcdefghijkl":
            rows += [("push", letter), ("store", letter)]
        walk = Walk(code_of(*rows, ("load", "l"), "return"), {"x": 1})
        while walk.step():
            pass
        self.assertEqual((walk.end(), len(walk.names())), (("value", "l"), 13))

    def test_the_first_refusal_that_is_told(self):
        no_code = [("push", 1, 1), ("jump", 4, 1)]
        for names in ({}, None):
            for steps in (1, -1):
                with self.assertRaises(BadCode):
                    run(no_code, names, steps)
                with self.assertRaises(Unsound):
                    run(UNSOUND["end"], names, steps)
        with self.assertRaises(BadNames):
            run(SHORT, None, -1)
        with self.assertRaises(BadNames):
            run(SHORT, {"A": 1}, 1)
        with self.assertRaises(BadNumber):
            run(SHORT, {}, -1)
        with self.assertRaises(BadCode):
            Walk(no_code, None)
        with self.assertRaises(Unsound):
            Walk(UNSOUND["end"], None)

    def test_codes_that_are_refused(self):
        assert_refuses_codes(self, lambda code: run(code, {}, 10))
        assert_refuses_codes(self, lambda code: run(code, None, None))
        assert_refuses_codes(self, lambda code: Walk(code, {}))
        assert_refuses_codes(self, lambda code: Walk(code, None))

    def test_nothing_is_changed_and_all_is_told_alike_again(self):
        for seed in range(60):
            code, names = made_code(seed), names_by_chance(seed)
            kept = copy.deepcopy((code, names))
            first = run(code, names, 500)
            self.assertEqual(kinds_of((code, names)), kinds_of(kept))
            known = copy.deepcopy(first)
            first[1].append("spoilt")
            self.assertEqual(kinds_of(run(code, names, 500)), kinds_of(known))


class WalkTest(unittest.TestCase):
    def all_of(self, walk):
        return (walk.place(), walk.stack(), walk.names(), walk.guards(), walk.told(), walk.places(), walk.end(), len(walk))

    def test_step_by_step(self):
        walk = Walk(GUARDED, {"c": True})
        on = ("on",)
        self.assertEqual(self.all_of(walk), (0, [], {"c": True}, [], [], [], on, 0))
        for found in (
            (2, [4], {"c": True}, [(1, 1)], [], [0], on, 1),
            (3, [4, 5], {"c": True}, [(1, 1)], [], [0, 2], on, 2),
            (4, [4], {"c": True, "b": 5}, [(1, 1)], [], [0, 2, 3], on, 3),
            (7, [4, "Unset"], {"c": True, "b": 5}, [], [], [0, 2, 3, 4], on, 4),
            (8, [4], {"c": True, "b": 5}, [], ["Unset"], [0, 2, 3, 4, 7], on, 5),
            (None, [], {"c": True, "b": 5}, [], ["Unset"], [0, 2, 3, 4, 7, 8], ("value", 4), 6),
        ):
            self.assertIs(walk.step(), True)
            self.assertEqual(kinds_of(self.all_of(walk)), kinds_of(found))
        for count in range(3):
            self.assertIs(walk.step(), False)
            self.assertEqual(kinds_of(self.all_of(walk)), kinds_of(found))

    def test_behind_a_fault(self):
        walk = Walk(FAULTY, {})
        self.assertEqual([walk.step() for count in range(5)], [True, True, True, False, False])
        self.assertEqual(self.all_of(walk), (None, [], {}, [], [1], [0, 1, 2], ("fault", "Unset", 102), 3))

    def test_what_is_told_is_new_each_time(self):
        walk = Walk(GUARDED, {"c": 1})
        while True:
            before = copy.deepcopy(self.all_of(walk))
            for told in (walk.stack(), walk.guards(), walk.told(), walk.places()):
                told.append("spoilt")
            walk.names()["a"] = "spoilt"
            walk.names().clear()
            self.assertEqual(self.all_of(walk), before)
            if not walk.step():
                break
        self.assertEqual(walk.end(), ("value", 4))
        self.assertEqual(len(walk), 6)

    def test_what_was_handed_in_may_be_changed_behind(self):
        for seed in range(40):
            code, names = made_code(seed), names_by_chance(seed)
            plain = run(code, names, 300)
            handed, given = list(code), dict(names)
            walk = Walk(handed, given)
            handed[:] = [("push", "Spoilt", 1), ("return", None, 1)]
            given.clear()
            given["a"] = "Spoilt"
            for count in range(300):
                walk.step()
            self.assertEqual(kinds_of((walk.end(), walk.told(), len(walk))), kinds_of(plain))
            self.assertEqual((handed, given), ([("push", "Spoilt", 1), ("return", None, 1)], {"a": "Spoilt"}))

    def test_two_walks_of_one_code(self):
        names = {"c": 1}
        first, second = Walk(GUARDED, names), Walk(GUARDED, names)
        for count in range(4):
            first.step()
        self.assertEqual(self.all_of(second), (0, [], {"c": 1}, [], [], [], ("on",), 0))
        second.step()
        self.assertEqual(first.place(), 7)
        while first.step():
            pass
        while second.step():
            pass
        self.assertEqual(self.all_of(first), self.all_of(second))
        self.assertEqual(names, {"c": 1})

    def test_walks_and_runs_agree(self):
        for seed in range(100):
            code, names = made_code(seed), names_by_chance(seed)
            walk = Walk(code, names)
            for steps in range(60):
                self.assertEqual(kinds_of(run(code, names, steps)), kinds_of((walk.end(), walk.told(), len(walk))))
                self.assertEqual(len(walk.places()), len(walk))
                place = walk.place()
                went_on = walk.step()
                self.assertEqual(went_on, place is not None)
                if went_on:
                    self.assertEqual(walk.places()[-1], place)
                    self.assertNotIn(code[place][0], ("label", "try", "endtry"))


if __name__ == "__main__":
    unittest.main()
