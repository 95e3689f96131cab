"""Promise 5.1, and of 0.1 to 0.3 what touches it: folding."""

import unittest

from codemill.fold import folded, is_folded
from codemill.machine import run
from codemill.sound import states
from tests.helper import assert_betters, assert_refuses_codes, code_of, is_subsequence, kinds_of, made_code

MOST = 10 ** 9
VALUES = (None, True, False, 0, 1, -1, 2, 7, -7, MOST, -MOST, MOST - 1, "a", "b", "Type")
TWO = ("add", "sub", "mul", "div", "rest", "less", "same")
FALSE = (None, False, 0)
# A row that is put in is one of these; all others stay.
PUT_IN = ("push", "jump", "iftrue", "iffalse")


def is_number(value):
    return type(value) is int


def two_made(op, first, second):
    """The value that the op makes and that can stand in a push, as a list; an empty one if there is none."""
    if op == "same":
        return [type(first) is type(second) and first == second]
    if not is_number(first) or not is_number(second) or (op in ("div", "rest") and second == 0):
        return []
    if op == "less":
        return [first < second]
    made = {"add": first + second, "sub": first - second, "mul": first * second}
    if op in ("div", "rest"):
        made["div"], made["rest"] = divmod(first, second)
    return [made[op]] if -MOST <= made[op] <= MOST else []


def has_group_at(code, at):
    """Whether a group as told in the document begins at the place."""
    rows = code[at:at + 3] + [("", None, 0)] * 3
    (op, arg, line), (then, number, line), (last, deep, line) = rows[:3]
    if op in ("push", "copy", "quick") and then == "drop":
        return True
    if op == "not" and then in ("iftrue", "iffalse"):
        return True
    if op != "push":
        return False
    if then in ("not", "iftrue", "iffalse", "ortrue", "orfalse") or (then == "copy" and number == 1):
        return True
    if then == "neg":
        return is_number(arg)
    if then != "push":
        return False
    return (last == "swap" and deep == 2) or (last in TWO and two_made(last, arg, number) != [])


def has_group(code):
    return any(has_group_at(code, at) for at in range(len(code)))


class FoldTest(unittest.TestCase):
    def assert_folds(self, code):
        found = assert_betters(self, folded, is_folded, code, has_group)
        left = [row for row in found if row[0] not in PUT_IN]
        self.assertTrue(is_subsequence(left, code), code)
        self.assertTrue(all(row[0] in ("push", "iftrue", "iffalse", "jump") or row in code for row in found))
        return found

    def assert_rows(self, rows, others):
        """Check that the rows become the others, whatever the lines; each is a whole code."""
        found = self.assert_folds(code_of(*rows))
        self.assertEqual(kinds_of([row[:2] for row in found]), kinds_of([row[:2] for row in code_of(*others)]))

    def assert_stays(self, *rows):
        code = code_of(*rows)
        self.assertEqual(kinds_of(self.assert_folds(code)), kinds_of(code))
        self.assertIs(is_folded(code), True)

    def test_dropped_at_once(self):
        self.assert_rows([("push", 1), ("push", 2), "drop", "return"], [("push", 1), "return"])
        self.assert_rows([("push", 1), ("quick", "a"), "drop", "return"], [("push", 1), "return"])
        self.assert_rows([("quick", "b"), ("load", "b"), ("copy", 2), "drop", "return"], [("quick", "b"), ("load", "b"), "return"])
        self.assert_rows([("quick", "a"), ("copy", 1), "drop", "return"], [("quick", "a"), "return"])
        self.assert_stays(("quick", "b"), ("load", "a"), "drop", "return")
        self.assert_stays(("load", "a"), ("load", "a"), "add", "drop", ("push", 1), "return")

    def test_neg_and_not(self):
        for value in VALUES:
            with self.subTest(value=value):
                truth = any(value is false for false in FALSE)
                self.assert_rows([("push", value), "not", "return"], [("push", truth), "return"])
                if is_number(value):
                    self.assert_rows([("push", value), "neg", "return"], [("push", -value), "return"])
                else:
                    self.assert_stays(("push", value), "neg", "return")

    def test_copy(self):
        self.assert_rows([("push", 4), ("copy", 1), "tell", "return"], [("push", 4), ("push", 4), "tell", "return"])
        self.assert_stays(("push", 4), ("push", 5), ("copy", 2), "tell", "return")
        self.assert_stays(("load", "a"), ("copy", 1), "tell", "return")

    def test_swap(self):
        self.assert_rows([("push", 4), ("push", True), ("swap", 2), "tell", "return"], [("push", True), ("push", 4), "tell", "return"])
        self.assert_stays(("push", 4), ("push", 5), ("push", 6), ("swap", 3), "tell", "return")
        self.assert_stays(("load", "a"), ("push", 5), ("swap", 2), "tell", "return")
        self.assert_stays(("push", 5), ("load", "a"), ("swap", 2), "tell", "return")

    def test_two_values(self):
        for op in TWO:
            for first in VALUES:
                for second in VALUES:
                    made = two_made(op, first, second)
                    rows = [("push", first), ("push", second), op, "return"]
                    with self.subTest(op=op, first=first, second=second):
                        if made:
                            self.assertEqual(kinds_of([row[:2] for row in folded(code_of(*rows))]),
                                             kinds_of([("push", made[0]), ("return", None)]))
                        else:
                            self.assertEqual(kinds_of(folded(code_of(*rows))), kinds_of(code_of(*rows)))
                        self.assertIs(is_folded(code_of(*rows)), not made)
                        self.assertEqual(kinds_of(run(code_of(*rows), {}, 9)[:2]), kinds_of(run(folded(code_of(*rows)), {}, 9)[:2]))

    def test_values_that_can_not_stand_in_a_push(self):
        for op, first, second, made in (
            ("add", MOST, 0, MOST), ("add", MOST - 1, 1, MOST), ("add", MOST, 1, None), ("add", -MOST, -1, None),
            ("add", 1 - MOST, -1, -MOST), ("sub", -MOST, 1, None), ("sub", 1 - MOST, 1, -MOST), ("sub", MOST, -1, None),
            ("mul", MOST, 1, MOST), ("mul", MOST, -1, -MOST), ("mul", MOST, 2, None), ("mul", MOST, MOST, None),
            ("mul", MOST, -MOST, None), ("div", MOST, -1, -MOST), ("rest", MOST, -MOST, 0), ("mul", 31623, 31623, None),
        ):
            rows = [("push", first), ("push", second), op, "return"]
            with self.subTest(op=op, first=first, second=second):
                if made is None:
                    self.assert_stays(*rows)
                else:
                    self.assert_rows(rows, [("push", made), "return"])

    def test_rounding_down_and_rest_of_all_signs(self):
        for first, second, down, rest in ((7, 2, 3, 1), (-7, 2, -4, 1), (7, -2, -4, -1), (-7, -2, 3, -1), (-6, 3, -2, 0)):
            self.assert_rows([("push", first), ("push", second), "div", "return"], [("push", down), "return"])
            self.assert_rows([("push", first), ("push", second), "rest", "return"], [("push", rest), "return"])

    def test_truths_that_are_made(self):
        self.assert_rows([("push", 1), ("push", True), "same", "return"], [("push", False), "return"])
        self.assert_rows([("push", 0), ("push", False), "same", "return"], [("push", False), "return"])
        self.assert_rows([("push", True), ("push", True), "same", "return"], [("push", True), "return"])
        self.assert_rows([("push", 1), ("push", 1), "same", "return"], [("push", True), "return"])
        self.assert_rows([("push", None), ("push", False), "same", "return"], [("push", False), "return"])
        self.assert_rows([("push", "a"), ("push", "a"), "same", "return"], [("push", True), "return"])
        self.assert_rows([("push", 1), ("push", 2), "less", "return"], [("push", True), "return"])
        self.assert_rows([("push", 2), ("push", 2), "less", "return"], [("push", False), "return"])

    def test_groups_that_fault_stay_in_their_line(self):
        for rows, kind in (
            ([("push", 1), ("push", 0), "div"], "Zero"), ([("push", 1), ("push", 0), "rest"], "Zero"), ([("push", None), "neg"], "Type"),
            *[([("push", 1), ("push", True), op], "Type") for op in TWO[:6]],
            *[([("push", "a"), ("push", 0), op], "Type") for op in TWO[:6]],
        ):
            code = code_of(*rows, "return")
            self.assertEqual(kinds_of(self.assert_folds(code)), kinds_of(code))
            self.assertEqual(run(folded(code), {}, 9)[0], ("fault", kind, 100 + len(rows) - 1))
        # Big is due of what is made of larger numbers, and keeps its line where rows ahead of it go.
        code = code_of(("push", 1), "neg", "tell", ("push", MOST), ("push", MOST), "mul", ("push", 2), "mul", "return")
        found = self.assert_folds(code)
        self.assertEqual(len(found), 8)
        self.assertEqual(run(found, {}, 99)[0], ("fault", "Big", 107))
        self.assertEqual(run(code, {}, 99)[0], ("fault", "Big", 107))

    def test_not_and_a_conditional_jump(self):
        for op, other in (("iftrue", "iffalse"), ("iffalse", "iftrue")):
            behind = [("push", 1), "return", ("label", 5), ("push", 2), "return"]
            self.assert_rows([("load", "a"), "not", (op, 5), *behind], [("load", "a"), (other, 5), *behind])
            self.assert_rows([("load", "a"), "not", "not", (op, 5), *behind], [("load", "a"), (op, 5), *behind])
            self.assert_rows([("load", "a"), "not", "not", "not", (op, 5), *behind], [("load", "a"), (other, 5), *behind])

    def test_not_ahead_of_the_others_stays(self):
        for op in ("ortrue", "orfalse"):
            self.assert_stays(("load", "a"), "not", (op, 5), ("push", 1), ("label", 5), "return")
        self.assert_stays(("load", "a"), "not", "neg", "return")
        self.assert_stays(("load", "a"), "not", "not", "return")
        self.assert_stays(("load", "a"), "not", "drop", ("push", 1), "return")

    def test_push_and_a_conditional_jump(self):
        for value in VALUES:
            is_true = not any(value is false for false in FALSE)
            for op in ("iftrue", "iffalse"):
                behind = [("push", 1), "return", ("label", 5), ("push", 2), "return"]
                goes = is_true == (op == "iftrue")
                with self.subTest(op=op, value=value):
                    self.assert_rows([("push", value), (op, 5), *behind], [("jump", 5), *behind] if goes else behind)
            for op in ("ortrue", "orfalse"):
                behind = [("push", 1), "tell", ("push", 3), ("label", 5), "tell", ("push", 2), "return"]
                goes = is_true == (op == "ortrue")
                with self.subTest(op=op, value=value):
                    self.assert_rows([("push", value), (op, 5), *behind], [("push", value), ("jump", 5), *behind] if goes else behind)

    def test_groups_that_come_of_others(self):
        self.assert_rows(
            [("push", 1), ("push", 2), "add", ("push", 4), "mul", "neg", ("push", -12), "same", "not", "return"],
            [("push", False), "return"],
        )
        self.assert_rows([("push", 3), ("copy", 1), "mul", "return"], [("push", 9), "return"])
        self.assert_rows([("push", 3), ("push", 5), ("swap", 2), "sub", "return"], [("push", 2), "return"])
        self.assert_rows([("push", 3), ("push", 5), ("swap", 2), "drop", "return"], [("push", 5), "return"])
        self.assert_rows([("push", 1), ("push", 2), ("push", 3), "drop", "drop", "return"], [("push", 1), "return"])
        self.assert_rows([("push", 0), "not", ("iftrue", 1), ("push", 5), "return", ("label", 1), ("push", 6), "return"],
                         [("jump", 1), ("push", 5), "return", ("label", 1), ("push", 6), "return"])
        self.assert_rows([("push", 8), ("push", 1), ("iffalse", 1), "neg", "return", ("label", 1), "return"],
                         [("push", -8), "return", ("label", 1), "return"])
        self.assert_rows([("push", 7), ("quick", "a"), "drop", ("push", 0), ("ortrue", 1), "neg", ("push", 0), ("label", 1), "drop", "return"],
                         [("push", -7), ("push", 0), ("label", 1), "drop", "return"])

    def test_groups_between_other_rows(self):
        self.assert_rows(
            [("load", "a"), "tell", ("push", 2), ("push", 3), "add", "tell", ("load", "b"), "return"],
            [("load", "a"), "tell", ("push", 5), "tell", ("load", "b"), "return"],
        )

    def test_groups_to_which_no_walk_comes(self):
        self.assert_rows([("push", 1), "return", ("push", 2), ("push", 3), "add"], [("push", 1), "return", ("push", 5)])
        self.assert_rows([("push", 1), "return", ("push", 2), "drop"], [("push", 1), "return"])
        self.assert_rows([("push", 1), "return", "not", ("iftrue", 3), ("label", 3)], [("push", 1), "return", ("iffalse", 3), ("label", 3)])
        self.assert_rows([("push", 1), "return", ("copy", 9), "drop", "drop", "drop"], [("push", 1), "return", "drop", "drop"])
        self.assert_rows([("push", 1), "return", ("push", 1), ("ortrue", 3), ("label", 3)],
                         [("push", 1), "return", ("push", 1), ("jump", 3), ("label", 3)])

    def test_rows_between_keep_them_apart(self):
        between = ("label", 3)
        behind = ["tell", ("push", 1), "return"]
        self.assert_stays(("push", 1), between, "neg", *behind)
        self.assert_stays(("push", 1), between, ("copy", 1), "tell", *behind)
        self.assert_stays(("push", 1), between, ("push", 2), "add", *behind)
        self.assert_stays(("push", 1), ("push", 2), between, "add", *behind)
        self.assert_stays(("push", 1), between, ("push", 2), ("swap", 2), "tell", *behind)
        self.assert_stays(("push", 1), ("push", 2), between, ("swap", 2), "tell", *behind)
        self.assert_stays(("push", 1), between, "drop", ("push", 2), *behind)
        for op in ("iftrue", "iffalse"):
            self.assert_stays(("load", "a"), "not", between, (op, 9), ("push", 2), "return", ("label", 9), ("push", 3), "return")
            self.assert_stays(("push", 1), between, (op, 9), ("push", 2), "return", ("label", 9), ("push", 3), "return")
        for op in ("ortrue", "orfalse"):
            self.assert_stays(("push", 1), between, (op, 9), ("push", 2), "return", ("label", 9), "return")
        self.assert_stays(("push", 1), ("try", 4), ("copy", 1), "tell", ("push", 1), "return", ("label", 4), "return")
        self.assert_stays(("push", 1), ("try", 4), "endtry", "neg", "return", ("label", 4), "return")
        self.assert_stays(("push", 1), ("push", 2), ("try", 4), "endtry", "add", "return", ("label", 4), "return")

    def test_rows_that_would_end_a_group(self):
        for row in ("drop", "add", "neg", "not", ("swap", 2), ("copy", 1), ("iftrue", 3), ("ortrue", 3)):
            self.assert_stays(("label", 3), ("push", 1), "return", row)
            self.assert_stays(("label", 3), ("push", 1), "return", ("clear", "a"), row)
        self.assert_stays(("push", 1), "return", ("load", "a"), "add")
        self.assert_stays(("push", 1), "return", ("push", 1), ("load", "a"), "add")
        self.assert_stays(("push", 1), "return", ("load", "a"), ("push", 1), "add")

    def test_no_group_reaches_over_the_beginning(self):
        # A row that would lack what it takes stands at place 0 of no sound code, but behind a jump at place 1 of one.
        self.assert_stays(("jump", 0), "drop", ("label", 0), ("push", 1), "return", ("push", 3))
        self.assert_stays(("jump", 0), "add", ("label", 0), ("push", 1), "return", ("push", 3), ("push", 3))

    def test_within_guards(self):
        self.assert_rows(
            [("push", 1), ("try", 5), ("push", 2), "neg", "tell", ("load", "a"), "tell", ("push", 3), ("push", 0), "div", "return",
             ("label", 5), "tell", "return"],
            [("push", 1), ("try", 5), ("push", -2), "tell", ("load", "a"), "tell", ("push", 3), ("push", 0), "div", "return",
             ("label", 5), "tell", "return"],
        )

    def test_codes_made_by_chance(self):
        changed = 0
        for seed in range(300):
            code = made_code(seed)
            found = self.assert_folds(code)
            changed += found != code
            self.assertEqual(states(found)[0], (0, ()))
        self.assertGreater(changed, 200)

    def test_refusals(self):
        for ask in (folded, is_folded):
            assert_refuses_codes(self, ask)


if __name__ == "__main__":
    unittest.main()
