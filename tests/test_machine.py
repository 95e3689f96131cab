"""Promise 2.1: what each row does, which faults are due, and how a guard takes one."""

import unittest

from codemill.machine import Walk, run
from tests.helper import code_of, kinds_of

BIG = 10 ** 18
VALUES = (None, True, False, 0, 1, -1, 2, -7, 10 ** 9, BIG, -BIG, "a", "b", "Type", "Unset")
FALSE = (None, False, 0)
NUMBERS_ALONE = ("add", "sub", "mul", "div", "rest", "less")


def is_number(value):
    return type(value) is int


def reckoned(op, first, second):
    """What the document says that the op makes of both: a pair of "value" or "fault" and that."""
    if op == "same":
        return ("value", type(first) is type(second) and first == second)
    if not is_number(first) or not is_number(second):
        return ("fault", "Type")
    if op == "less":
        return ("value", second - first > 0)
    if op in ("div", "rest"):
        if second == 0:
            return ("fault", "Zero")
        down = abs(first) // abs(second)
        if (first < 0) != (second < 0):
            down = -down if abs(first) == down * abs(second) else -down - 1
        made = down if op == "div" else first - down * second
    else:
        made = {"add": first + second, "sub": first - second, "mul": first * second}[op]
    return ("fault", "Big") if not -BIG <= made <= BIG else ("value", made)


class MachineCase(unittest.TestCase):
    def assert_run(self, code, names, end, told=(), steps=None):
        found = run(code, names, 1000)
        self.assertEqual(kinds_of(found[:2]), kinds_of((end, list(told))), (code, names))
        self.assertIs(type(found), tuple)
        if steps is not None:
            self.assertEqual(found[2], steps)

    def stack_behind(self, code, names, many):
        """The stack behind so many steps."""
        walk = Walk(code, names)
        for count in range(many):
            self.assertIs(walk.step(), True)
        return walk.stack()


class ValuesTest(MachineCase):
    def test_two_values(self):
        for op in NUMBERS_ALONE + ("same",):
            for first in VALUES:
                for second in VALUES:
                    code = code_of(("load", "a"), ("load", "b"), op, "return")
                    word, made = reckoned(op, first, second)
                    end = ("value", made) if word == "value" else ("fault", made, 102)
                    with self.subTest(op=op, first=first, second=second):
                        self.assert_run(code, {"a": first, "b": second}, end, (), 4 if word == "value" else 3)

    def test_rounding_down_and_rest_of_all_signs(self):
        for first, second, down, rest in (
            (7, 2, 3, 1), (-7, 2, -4, 1), (7, -2, -4, -1), (-7, -2, 3, -1), (6, 3, 2, 0), (-6, 3, -2, 0), (6, -3, -2, 0),
            (-6, -3, 2, 0), (0, 5, 0, 0), (0, -5, 0, 0), (1, 5, 0, 1), (-1, 5, -1, 4), (1, -5, -1, -4), (-1, -5, 0, -1),
        ):
            for op, made in (("div", down), ("rest", rest)):
                with self.subTest(op=op, first=first, second=second):
                    self.assert_run(code_of(("push", first), ("push", second), op, "return"), {}, ("value", made))

    def test_big_at_its_edges(self):
        for op, first, second, made in (
            ("add", BIG, 0, BIG), ("add", BIG - 1, 1, BIG), ("add", 1, BIG, None), ("add", -BIG, -1, None),
            ("add", 1 - BIG, -1, -BIG), ("sub", -BIG, 1, None), ("sub", BIG, -1, None), ("sub", 1 - BIG, 1, -BIG),
            ("mul", 10 ** 9, 10 ** 9, BIG), ("mul", -10 ** 9, 10 ** 9, -BIG), ("mul", 10 ** 9, 10 ** 9 + 1, None),
            ("mul", BIG, -1, -BIG), ("mul", BIG, -2, None), ("mul", BIG, BIG, None), ("div", BIG, -1, -BIG),
            ("div", -BIG, -1, BIG), ("rest", BIG, -BIG, 0), ("rest", BIG - 1, -BIG, -1), ("add", BIG, -BIG, 0),
        ):
            end = ("fault", "Big", 102) if made is None else ("value", made)
            with self.subTest(op=op, first=first, second=second):
                self.assert_run(code_of(("load", "a"), ("load", "b"), op, "return"), {"a": first, "b": second}, end)

    def test_type_comes_ahead_of_zero_and_zero_ahead_of_the_rest(self):
        for op in ("div", "rest"):
            self.assert_run(code_of(("push", "a"), ("push", 0), op, "return"), {}, ("fault", "Type", 102))
            self.assert_run(code_of(("push", 1), ("push", False), op, "return"), {}, ("fault", "Type", 102))
            self.assert_run(code_of(("push", None), ("push", 0), op, "return"), {}, ("fault", "Type", 102))
            self.assert_run(code_of(("load", "a"), ("push", 0), op, "return"), {"a": BIG}, ("fault", "Zero", 102))
            self.assert_run(code_of(("push", 0), ("push", 0), op, "return"), {}, ("fault", "Zero", 102))

    def test_neg(self):
        code = code_of(("load", "a"), "neg", "return")
        for value in VALUES:
            end = ("value", -value) if is_number(value) else ("fault", "Type", 101)
            with self.subTest(value=value):
                self.assert_run(code, {"a": value}, end)

    def test_not(self):
        code = code_of(("load", "a"), "not", "return")
        for value in VALUES:
            with self.subTest(value=value):
                self.assert_run(code, {"a": value}, ("value", any(value is false for false in FALSE)))

    def test_every_value_is_pushed_told_and_returned_as_it_is(self):
        for value in VALUES:
            with self.subTest(value=value):
                self.assert_run(code_of(("load", "a"), "tell", ("load", "a"), "return"), {"a": value},
                                ("value", value), [value], 4)
        for value in (None, True, False, 0, 1, -1, 10 ** 9, -10 ** 9, "a", "Zero"):
            with self.subTest(value=value):
                self.assert_run(code_of(("push", value), "return"), {}, ("value", value), [], 2)


class RowsTest(MachineCase):
    def test_load_quick_and_clear_without_a_value(self):
        self.assert_run(code_of(("load", "a"), "return"), {}, ("fault", "Unset", 100), [], 1)
        self.assert_run(code_of(("load", "a"), "return"), {"b": 1, "aa": 1}, ("fault", "Unset", 100), [], 1)
        self.assert_run(code_of(("quick", "a"), "return"), {"b": 1}, ("value", None), [], 2)
        self.assert_run(code_of(("clear", "a"), ("push", 1), "return"), {}, ("fault", "Unset", 100), [], 1)

    def test_a_value_of_none_is_a_value(self):
        self.assert_run(code_of(("load", "a"), "return"), {"a": None}, ("value", None))
        self.assert_run(code_of(("clear", "a"), ("push", 1), "return"), {"a": None}, ("value", 1))

    def test_quick_of_a_value(self):
        for value in VALUES:
            self.assert_run(code_of(("quick", "a"), "return"), {"a": value}, ("value", value))

    def test_store_and_clear(self):
        self.assert_run(code_of(("push", 5), ("store", "a"), ("load", "a"), "return"), {}, ("value", 5))
        self.assert_run(code_of(("push", 5), ("store", "a"), ("load", "a"), "return"), {"a": 1}, ("value", 5))
        self.assert_run(code_of(("clear", "a"), ("load", "a"), "return"), {"a": 1}, ("fault", "Unset", 101))
        self.assert_run(code_of(("clear", "a"), ("quick", "a"), "return"), {"a": 1}, ("value", None))
        self.assert_run(code_of(("clear", "a"), ("clear", "a"), ("push", 1), "return"), {"a": 1}, ("fault", "Unset", 101))
        code = code_of(("clear", "a"), ("push", None), ("store", "a"), ("load", "a"), "return")
        self.assert_run(code, {"a": 1}, ("value", None))
        walk = Walk(code_of(("push", 5), ("store", "a"), ("clear", "b"), ("push", 1), "return"), {"b": 2, "c": 3})
        walk.step()
        walk.step()
        self.assertEqual((walk.stack(), walk.names()), ([], {"a": 5, "b": 2, "c": 3}))
        walk.step()
        self.assertEqual(walk.names(), {"a": 5, "c": 3})

    def test_copy_and_swap_of_every_depth(self):
        pushed = list(range(10, 19))
        pushes = [("push", value) for value in pushed]
        for deep in range(1, 10):
            with self.subTest(deep=deep):
                code = code_of(*pushes, ("copy", deep), "return")
                self.assertEqual(self.stack_behind(code, {}, 10), pushed + [pushed[-deep]])
        for deep in range(2, 10):
            with self.subTest(deep=deep):
                swapped = list(pushed)
                swapped[8], swapped[9 - deep] = pushed[9 - deep], pushed[8]
                self.assertEqual(self.stack_behind(code_of(*pushes, ("swap", deep), "return"), {}, 10), swapped)

    def test_drop_and_tell_take_the_top(self):
        pushes = [("push", 1), ("push", 2), ("push", 3)]
        self.assertEqual(self.stack_behind(code_of(*pushes, "drop", "return"), {}, 4), [1, 2])
        self.assert_run(code_of(*pushes, "tell", "tell", "return"), {}, ("value", 1), [3, 2], 6)

    def test_rows_that_take_two_leave_the_others(self):
        for op, made in (("add", 5), ("sub", 1), ("mul", 6), ("div", 1), ("rest", 1), ("less", False), ("same", False)):
            code = code_of(("push", 9), ("push", 3), ("push", 2), op, "return")
            self.assertEqual(kinds_of(self.stack_behind(code, {}, 4)), kinds_of([9, made]), op)

    def test_conditional_jumps(self):
        for op in ("iftrue", "iffalse", "ortrue", "orfalse"):
            # Behind the jump the stack is one less deep, so a value is put there for the label's state.
            between = [("push", "No")] if op in ("ortrue", "orfalse") else []
            code = code_of(("push", "Low"), ("load", "a"), (op, 3), ("push", "No"), "tell", *between, ("label", 3), "return")
            for value in VALUES:
                is_true = not any(value is false for false in FALSE)
                goes = is_true == op.endswith("true")
                with self.subTest(op=op, value=value):
                    walk = Walk(code, {"a": value})
                    for count in range(3):
                        walk.step()
                    left = ["Low", value] if goes and op.startswith("or") else ["Low"]
                    self.assertEqual(kinds_of(walk.stack()), kinds_of(left))
                    self.assertEqual(walk.place(), len(code) - 1 if goes else 3)
                    self.assertEqual(walk.told(), [])

    def test_jump(self):
        code = code_of(("push", 1), ("jump", 9), ("label", 8), "tell", ("push", 2), "return", ("label", 9), ("push", 3), ("jump", 8))
        walk = Walk(code, {})
        while walk.step():
            pass
        self.assertEqual(walk.places(), [0, 1, 7, 8, 3, 4, 5])
        self.assert_run(code, {}, ("value", 2), [3], 7)

    def test_return_takes_its_value(self):
        self.assertEqual(self.stack_behind(code_of(("push", 1), ("push", 2), "return"), {}, 3), [1])


class FaultsTest(MachineCase):
    def test_raise(self):
        for value in VALUES:
            kind = value if isinstance(value, str) else "Type"
            with self.subTest(value=value):
                self.assert_run(code_of(("load", "a"), "raise"), {"a": value}, ("fault", kind, 101), [], 2)

    def test_a_row_that_faults_has_taken_what_it_takes(self):
        for op in NUMBERS_ALONE:
            code = code_of(("push", 9), ("push", "a"), ("push", 2), op, "return")
            self.assertEqual(self.stack_behind(code, {}, 4), [9], op)
        self.assertEqual(self.stack_behind(code_of(("push", 9), ("push", None), "neg", "return"), {}, 3), [9])
        self.assertEqual(self.stack_behind(code_of(("push", 9), ("push", "Odd"), "raise"), {}, 3), [9])
        self.assertEqual(self.stack_behind(code_of(("push", 9), ("load", "a"), "return"), {}, 2), [9])
        self.assertEqual(self.stack_behind(code_of(("push", 9), ("clear", "a"), "return"), {}, 2), [9])

    def test_each_fault_is_taken_by_a_guard(self):
        for rows, kind in (
            ([("load", "a")], "Unset"), ([("clear", "a"), ("push", 1)], "Unset"), ([("push", "Odd"), "raise"], "Odd"),
            ([("push", 1), "raise"], "Type"), ([("push", None), "neg"], "Type"), ([("push", 1), ("push", 0), "div"], "Zero"),
            ([("push", 1), ("push", 0), "rest"], "Zero"), ([("push", True), ("push", 1), "less"], "Type"),
            ([("load", "b"), ("load", "b"), "add"], "Big"), ([("load", "b"), ("load", "b"), "mul"], "Big"),
            ([("push", -1), ("load", "b"), "sub"], "Big"),
        ):
            code = code_of(("push", "Low"), ("try", 5), ("push", 8), *rows, "return", ("label", 5), "tell", "return")
            with self.subTest(rows=rows):
                self.assert_run(code, {"b": BIG}, ("value", "Low"), [kind])

    def test_the_stack_is_cut_down_and_the_guard_gone(self):
        code = code_of(("push", 1), ("push", 2), ("try", 4), ("push", 3), ("push", 4), ("load", "a"), "return",
                       ("label", 4), ("push", "Odd"), "raise")
        walk = Walk(code, {})
        for count in range(4):
            walk.step()
        self.assertEqual((walk.stack(), walk.guards(), walk.place()), ([1, 2, 3, 4], [(4, 2)], 5))
        walk.step()
        self.assertEqual((walk.stack(), walk.guards(), walk.place()), ([1, 2, "Unset"], [], 8))
        walk.step()
        walk.step()
        self.assertEqual((walk.stack(), walk.end()), ([1, 2, "Unset"], ("fault", "Odd", 109)))

    def test_guards_within_guards(self):
        code = code_of(("push", 0), ("try", 1), ("push", 1), ("try", 2), ("push", 2), ("try", 3), ("push", 3), ("load", "a"), "return",
                       ("label", 3), "tell", ("push", "In"), "raise",
                       ("label", 2), "tell", ("push", "Out"), "raise",
                       ("label", 1), "tell", "return")
        walk = Walk(code, {})
        seen = []
        while walk.step():
            seen.append((walk.stack(), walk.guards()))
        self.assertEqual(seen[3], ([0, 1, 2, 3], [(1, 1), (2, 2), (3, 3)]))
        self.assertEqual(seen[4], ([0, 1, 2, "Unset"], [(1, 1), (2, 2)]))
        self.assertEqual(seen[7], ([0, 1, "In"], [(1, 1)]))
        self.assertEqual(seen[10], ([0, "Out"], []))
        self.assertEqual((walk.end(), walk.told()), (("value", 0), ["Unset", "In", "Out"]))

    def test_a_fault_behind_an_endtry(self):
        code = code_of(("try", 1), ("push", 1), "tell", "endtry", ("load", "a"), "return", ("label", 1), "return")
        self.assert_run(code, {}, ("fault", "Unset", 104), [1], 3)
        self.assert_run(code, {"a": 6}, ("value", 6), [1], 4)
        code = code_of(("try", 1), ("try", 2), "endtry", ("load", "a"), "return", ("label", 1), "return", ("label", 2), "raise")
        self.assert_run(code, {}, ("value", "Unset"), [], 2)

    def test_a_guard_takes_one_fault_alone(self):
        code = code_of(("try", 1), ("load", "a"), "return", ("label", 1), "drop", ("load", "b"), "return")
        self.assert_run(code, {}, ("fault", "Unset", 105), [], 3)

    def test_a_fault_changes_no_names(self):
        code = code_of(("try", 1), ("push", 3), ("store", "a"), ("load", "b"), "return", ("label", 1), "drop", ("load", "a"), "return")
        self.assert_run(code, {"a": 1}, ("value", 3), [], 6)

    def test_copy_beneath_a_guard(self):
        code = code_of(("push", 5), ("try", 1), ("copy", 1), "neg", "return", ("label", 1), "return")
        self.assert_run(code, {}, ("value", -5), [], 4)

    def test_the_line_is_that_of_the_row(self):
        code = [("push", 1, 3), ("push", None, 2), ("add", None, 9999), ("return", None, 0)]
        self.assert_run(code, {}, ("fault", "Type", 9999))
        self.assert_run([("load", "a", 0), ("return", None, 5)], {}, ("fault", "Unset", 0))


class QuietRowsTest(MachineCase):
    def test_at_the_very_beginning(self):
        code = code_of(("label", 1), ("try", 2), ("label", 3), ("push", 1), "return", ("label", 2), "return")
        walk = Walk(code, {})
        self.assertEqual((walk.place(), walk.guards(), len(walk)), (3, [(2, 0)], 0))
        self.assert_run(code, {}, ("value", 1), [], 2)

    def test_ahead_of_the_end(self):
        code = code_of(("push", 1), ("try", 1), "endtry", ("try", 1), ("label", 3), "endtry", ("label", 2), "return",
                       ("label", 1), "return")
        walk = Walk(code, {})
        walk.step()
        self.assertEqual((walk.place(), walk.guards(), walk.stack()), (7, [], [1]))
        self.assert_run(code, {}, ("value", 1), [], 2)

    def test_behind_a_jump(self):
        code = code_of(("push", 1), ("jump", 5), ("label", 9), "return", ("label", 5), ("label", 6), ("try", 9), ("push", 2),
                       "tell", "endtry", "return")
        walk = Walk(code, {})
        walk.step()
        walk.step()
        self.assertEqual((walk.place(), walk.guards()), (7, [(9, 1)]))
        walk.step()
        walk.step()
        self.assertEqual((walk.place(), walk.guards(), len(walk)), (10, [], 4))

    def test_behind_a_fault(self):
        code = code_of(("try", 1), ("load", "a"), "return", ("label", 1), ("try", 2), ("load", "b"), "return", ("label", 2), "return")
        walk = Walk(code, {})
        walk.step()
        self.assertEqual((walk.place(), walk.guards(), walk.stack()), (5, [(2, 1)], ["Unset"]))

    def test_guards_stay_behind_a_return(self):
        walk = Walk(code_of(("try", 1), ("push", 1), "return", ("label", 1), "return"), {})
        walk.step()
        walk.step()
        self.assertEqual((walk.end(), walk.guards(), walk.place()), (("value", 1), [(1, 0)], None))


if __name__ == "__main__":
    unittest.main()
