"""Promise 13.1, and of 0.1 to 0.3 what touches it: the machine that runs units by the table."""

import copy
import unittest

from codemill.engine import run_units
from codemill.errors import BadNames, BadNumber
from codemill.machine import run
from codemill.units import Units, assembled, listing
from tests.helper import THINGS, code_of, kinds_of, loading_code, made_code, names_by_chance, parts_of

MOST = 10 ** 18
GUARDED = code_of(
    ("push", 8), ("try", 1), ("push", 7), ("try", 2), ("load", "a"), "tell", "endtry", ("load", "b"), ("push", 3), "div", "tell",
    ("jump", 3), ("label", 2), "tell", ("load", "c"), "raise", ("label", 3), "tell", "endtry", ("load", "d"), "return",
    ("label", 1), "tell", "tell", ("push", 6), "return",
)


class EngineCase(unittest.TestCase):
    def assert_runs_alike(self, code, names, steps=300):
        """Check that units run as the code does; tells the end."""
        kept, given = copy.deepcopy(code), copy.deepcopy(names)
        units = assembled(code)
        for made in (units, Units(*parts_of(units))):
            parts = parts_of(made)
            told = run(code, names, steps)
            self.assertEqual(kinds_of(run_units(made, names, steps)), kinds_of(told), (code, names))
            for many in {0, 1, told[2] // 2, max(0, told[2] - 1), told[2], told[2] + 1}:
                self.assertEqual(kinds_of(run_units(made, names, many)), kinds_of(run(code, names, many)), (code, names, many))
            self.assertEqual(kinds_of(parts_of(made)), kinds_of(parts))
        self.assertEqual(kinds_of((code, names)), kinds_of((kept, given)))
        return told[0]


class RunUnitsTest(EngineCase):
    def test_ends(self):
        self.assertEqual(self.assert_runs_alike(code_of(("push", True), "return"), {}), ("value", True))
        self.assertEqual(self.assert_runs_alike(code_of(("load", "a"), "return"), {"a": MOST}), ("value", MOST))
        self.assertEqual(self.assert_runs_alike(code_of(("load", "a"), "return"), {}), ("fault", "Unset", 100))
        self.assertEqual(self.assert_runs_alike(code_of(("label", 1), ("push", 1), "tell", ("jump", 1)), {}), ("on",))

    def test_faults_of_all_kinds(self):
        for rows, kind in (
            ([("clear", "a")], "Unset"), ([("push", None), "neg"], "Type"), ([("push", 1), ("push", True), "add"], "Type"), ([("push", 1), ("push", 0), "div"], "Zero"),
            ([("push", 1), ("push", 0), "rest"], "Zero"), ([("load", "m"), ("push", 1), "add"], "Big"), ([("push", "Odd"), "raise"], "Odd"), ([("push", 5), "raise"], "Type"),
            ([("push", "a"), ("push", 1), "less"], "Type"),
        ):
            code = code_of(("push", 1), *rows, ("push", 2), "return")
            self.assertEqual(self.assert_runs_alike(code, {"m": MOST}), ("fault", kind, 100 + len(rows)))
            code = code_of(("push", 1), ("try", 1), *rows, ("push", 2), "return", ("label", 1), "return")
            self.assertEqual(self.assert_runs_alike(code, {"m": MOST}), ("value", kind))

    def test_guards_within_guards(self):
        for names, end, told in (
            ({}, ("value", 6), ["Unset", "Unset", 8]), ({"a": 1}, ("value", 6), [1, "Unset", 8]), ({"a": 1, "b": 9}, ("fault", "Unset", 119), [1, 3, 7]),
            ({"a": 1, "b": "x"}, ("value", 6), [1, "Type", 8]), ({"c": "Odd"}, ("value", 6), ["Unset", "Odd", 8]),
            ({"a": 1, "b": 9, "d": None}, ("value", None), [1, 3, 7]),
        ):
            with self.subTest(names=names):
                self.assertEqual(self.assert_runs_alike(GUARDED, names), end)
                self.assertEqual(run_units(assembled(GUARDED), names, 100)[1], told)

    def test_far_jumps_and_many_constants(self):
        pushes = [("push", value) for value in range(130)]
        code = code_of(("load", "a"), ("iftrue", 1), ("push", 1), "return", *pushes[20:], ("label", 2), ("push", 129), "tell", ("push", 5), "return",
                       ("label", 1), ("load", "b"), ("ortrue", 3), ("jump", 2), ("label", 3), "tell", ("jump", 2))
        self.assertGreater(len(assembled(code)), 220)
        for names, end in (({"a": 1, "b": 2}, ("value", 5)), ({"a": 0}, ("value", 1)), ({"a": 1}, ("fault", "Unset", 100 + 120)), ({"a": 1, "b": 0}, ("value", 5))):
            self.assertEqual(self.assert_runs_alike(code, names), end)
        code = code_of(*[row for value in range(70) for row in (("push", value), "tell")], ("push", 1), "return")
        self.assertEqual(self.assert_runs_alike(code, {}), ("value", 1))
        self.assertEqual(run_units(assembled(code), {}, 1000)[1], list(range(70)))

    def test_many_names(self):
        names = [chr(97 + at // 26) + chr(97 + at % 26) for at in range(40)]
        code = code_of(*[row for name in names for row in (("quick", name), "tell")], ("load", "ab"), ("store", "bn"), ("load", "bn"), "return")
        self.assertEqual(self.assert_runs_alike(code, {"ab": 5, "bm": True, "bn": "x"}), ("value", 5))

    def test_each_number_of_steps(self):
        for code in (GUARDED, code_of(("label", 1), ("push", 1), "tell", ("jump", 1))):
            units = assembled(code)
            for steps in range(25):
                for names in ({}, {"a": 1, "b": 3, "d": 1}):
                    self.assertEqual(kinds_of(run_units(units, names, steps)), kinds_of(run(code, names, steps)))

    def test_very_many_steps(self):
        code = code_of(("push", 0), ("label", 1), ("push", 1), "add", ("copy", 1), ("iftrue", 1), "return")
        self.assertEqual(run_units(assembled(code), {}, 100000), run(code, {}, 100000))

    def test_codes_made_by_chance(self):
        ends = []
        for seed in range(300):
            code = (made_code, loading_code)[seed % 2](seed)
            for count in range(2):
                ends.append(self.assert_runs_alike(code, names_by_chance(seed + count))[0])
        self.assertEqual(sorted(set(ends)), ["fault", "on", "value"])

    def test_long_codes_made_by_chance(self):
        for seed in range(60):
            code = made_code(seed, 120)
            if len(code) <= 150:
                self.assert_runs_alike(code, names_by_chance(seed))

    def test_told_anew(self):
        units = assembled(code_of(("push", 1), "tell", ("push", 1), "return"))
        end, told, steps = run_units(units, {}, 9)
        told.append("spoilt")
        self.assertEqual(run_units(units, {}, 9), (("value", 1), [1], 4))
        self.assertIs(type(run_units(units, {}, 9)), tuple)


class TableAloneTest(unittest.TestCase):
    """A fault looks for its unit in the table of guards: with another table it goes another way."""

    CODE = code_of(("push", 5), ("push", 6), ("try", 1), ("load", "a"), "return", ("label", 1), "tell", ("label", 2), "tell", "return", "tell", "tell")

    def with_table(self, table):
        consts, names, units, ahead, lines = parts_of(assembled(self.CODE))
        return Units(consts, names, units, table, lines)

    def test_as_it_is(self):
        units = assembled(self.CODE)
        self.assertEqual(units.table(), ((2, 4, 4, 2),))
        self.assertEqual([row[:2] for row in listing(units)][2:7], [(2, "load"), (3, "return"), (4, "tell"), (5, "tell"), (6, "return")])
        self.assertEqual(run_units(units, {}, 99), (("value", 5), ["Unset", 6], 6))

    def test_which_guard_takes_it(self):
        for table in ((), ((0, 2, 4, 2),), ((3, 4, 4, 2),), ((0, 2, 4, 2), (3, 7, 4, 2))):
            self.assertEqual(run_units(self.with_table(table), {}, 99), (("fault", "Unset", 103), [], 3))
        for table in (((0, 3, 4, 2),), ((2, 3, 4, 2),), ((0, 9, 4, 2),), ((0, 2, 6, 0), (2, 3, 4, 2), (3, 4, 6, 0))):
            self.assertEqual(run_units(self.with_table(table), {}, 99), (("value", 5), ["Unset", 6], 6))

    def test_where_it_goes_on(self):
        self.assertEqual(run_units(self.with_table(((2, 4, 5, 2),)), {}, 99), (("value", 6), ["Unset"], 5))
        self.assertEqual(run_units(self.with_table(((2, 4, 6, 2),)), {}, 99), (("value", "Unset"), [], 4))

    def test_how_deep_the_stack_is_cut(self):
        self.assertEqual(run_units(self.with_table(((2, 4, 6, 0),)), {}, 99), (("value", "Unset"), [], 4))
        self.assertEqual(run_units(self.with_table(((2, 4, 5, 1),)), {}, 99), (("value", 5), ["Unset"], 5))

    def test_the_line_by_the_table_of_lines(self):
        consts, names, units, table, lines = parts_of(assembled(self.CODE))
        self.assertEqual(run_units(Units(consts, names, units, (), ((len(units), 77),)), {}, 99)[0], ("fault", "Unset", 77))


class RefusalsTest(unittest.TestCase):
    def setUp(self):
        self.units = assembled(code_of(("push", 5), "return"))

    def test_names(self):
        for names in THINGS + (
            {"a": MOST + 1}, {"a": -MOST - 1}, {"A": 1}, {"abcde": 1}, {"": 1}, {1: 1}, {"a": []}, {"a": "a1"}, {"a": ()}, {"a": {}}, {None: 1},
            {name: 1 for name in "abcdefghi"}, [("a", 1)],
        ):
            if names in ({}, {"a": 1}):
                continue
            kept = copy.deepcopy(names)
            for steps in (5, -1, None):
                with self.subTest(names=names), self.assertRaises(BadNames):
                    run_units(self.units, names, steps)
            self.assertEqual(kinds_of(names), kinds_of(kept))
        for names in ({}, {"a": MOST}, {"a": -MOST}, {name: None for name in "abcdefgh"}, {"abcd": "Kind", "b": True}):
            self.assertEqual(run_units(self.units, names, 5), (("value", 5), [], 2))

    def test_steps(self):
        for steps in THINGS + (-1, 100001, True, False, None, "1", [1], (1,)):
            if steps in (0, 1) and type(steps) is int:
                continue
            with self.subTest(steps=steps), self.assertRaises(BadNumber):
                run_units(self.units, {}, steps)
        for steps in (0, 1, 100000):
            self.assertEqual(run_units(self.units, {}, steps)[2], min(2, steps))


if __name__ == "__main__":
    unittest.main()
