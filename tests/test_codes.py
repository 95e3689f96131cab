"""Promise 1.1, and of 0.1 to 0.3 what touches it: what a code is, and where a bad one is bad."""

import copy
import unittest

from codemill.codes import is_code
from codemill.errors import BadCode
from codemill.texts import code_text
from tests.helper import BARE_OPS, JUMP_OPS, NAME_OPS, PUSHED, THINGS, every_row, kinds_of

GOOD = ("add", None, 1)
BAD = ("add", None, -1)
ALL_OPS = ("push", "copy", "swap", "label") + NAME_OPS + JUMP_OPS + BARE_OPS


class CodesCase(unittest.TestCase):
    def assert_code(self, thing):
        self.assertIs(is_code(thing), True, repr(thing))
        code_text(thing)

    def assert_bad(self, thing, at):
        self.assertIs(is_code(thing), False, repr(thing))
        with self.assertRaises(BadCode) as raised:
            code_text(thing)
        self.assertEqual(kinds_of(raised.exception.at), kinds_of(at), repr(thing))

    def assert_row(self, row):
        self.assert_code([GOOD, row])

    def assert_no_row(self, row):
        self.assert_bad([GOOD, row], 1)


class RowsTest(CodesCase):
    def test_every_op_and_sort_of_arg(self):
        self.assertEqual(len(ALL_OPS), 28)
        self.assert_code(every_row())

    def test_other_ops(self):
        for op in ("", "more", "Add", "ADD", "add ", " add", "pop", "nop", "none", "value", "mark", "name"):
            for arg in (None, 0, 2, "a"):
                with self.subTest(op=op, arg=arg):
                    self.assert_no_row((op, arg, 1))

    def test_ops_of_other_kinds(self):
        for op in THINGS:
            if op != "push":
                with self.subTest(op=op):
                    self.assert_no_row((op, None, 1))

    def test_line_edges(self):
        for line in (0, 1, 9998, 9999):
            self.assert_row(("add", None, line))
        for line in (-1, 10000, -9999, 999999999999999):
            self.assert_no_row(("add", None, line))

    def test_lines_of_other_kinds(self):
        for line in (None, True, False, "1", "", [1], (1,), {1: 1}, []):
            with self.subTest(line=line):
                self.assert_no_row(("add", None, line))

    def test_rows_of_other_lengths(self):
        for row in ((), ("add",), ("add", None), ("add", None, 1, 1), ("add", None, 1, None), ("add", 1)):
            with self.subTest(row=row):
                self.assert_no_row(row)

    def test_rows_of_other_kinds(self):
        self.assert_no_row(["add", None, 1])
        self.assert_no_row({"add": 1, None: 2, 1: 3})
        self.assert_no_row("add")
        for thing in THINGS:
            if thing != ("add", None, 1):
                with self.subTest(thing=thing):
                    self.assert_no_row(thing)


class ArgsTest(CodesCase):
    def test_pushed_values(self):
        for value in PUSHED:
            with self.subTest(value=value):
                self.assert_row(("push", value, 1))

    def test_pushed_number_edges(self):
        for value in (10 ** 9, -10 ** 9):
            self.assert_row(("push", value, 1))
        for value in (10 ** 9 + 1, -10 ** 9 - 1, 999999999999999, -999999999999999):
            self.assert_no_row(("push", value, 1))

    def test_pushed_kinds(self):
        for kind in ("a", "Z", "azAZ", "abcdefgh", "ABCDEFGH"):
            self.assert_row(("push", kind, 1))
        for text in ("", "abcdefghi", "a1", "a_b", "a b", " a", "a\n", "'a'", "-", "1", "\u00e9", "\u0391", "@", "[", "`", "{"):
            with self.subTest(text=text):
                self.assert_no_row(("push", text, 1))

    def test_pushed_things_of_other_kinds(self):
        for thing in ([], [1], (), (1,), {}, {"a": 1}, [None], (None,)):
            with self.subTest(thing=thing):
                self.assert_no_row(("push", thing, 1))

    def test_names(self):
        for op in NAME_OPS:
            for name in ("a", "z", "ab", "abc", "abcd", "zzzz"):
                self.assert_row((op, name, 1))
            for name in ("", "abcde", "A", "aB", "Ab", "a1", "a_", "a b", "a\n", "'a'", "\u00e9", "`", "{"):
                with self.subTest(op=op, name=name):
                    self.assert_no_row((op, name, 1))
            for thing in (None, True, False, 0, 1, [], ["a"], ("a",), {"a": 1}):
                with self.subTest(op=op, thing=thing):
                    self.assert_no_row((op, thing, 1))

    def assert_numbers(self, op, low, high):
        for number in range(low, high + 1):
            self.assert_row((op, number, 1))
        for number in (low - 1, high + 1, -low, -high, 999999999999999):
            with self.subTest(op=op, number=number):
                self.assert_no_row((op, number, 1))
        for thing in (None, True, False, "", "2", "a", [], [2], (2,), {2: 2}):
            with self.subTest(op=op, thing=thing):
                self.assert_no_row((op, thing, 1))

    def test_copy(self):
        self.assert_numbers("copy", 1, 9)

    def test_swap(self):
        self.assert_numbers("swap", 2, 9)

    def test_marks(self):
        for op in JUMP_OPS:
            for mark in (0, 1, 50, 98, 99):
                self.assert_code([(op, mark, 1), ("label", mark, 1)])
            for mark in (-1, 100, True, False, None, "0", "a", [0], (0,), {0: 0}, 999999999999999):
                with self.subTest(op=op, mark=mark):
                    self.assert_bad([("label", 0, 1), ("label", 1, 1), (op, mark, 1)], 2)

    def test_marks_of_labels(self):
        for mark in (0, 1, 98, 99):
            self.assert_code([("label", mark, 1)])
        for mark in (-1, 100, True, False, None, "0", "a", [0], (0,), {0: 0}):
            with self.subTest(mark=mark):
                self.assert_no_row(("label", mark, 1))

    def test_ops_without_arg(self):
        for op in BARE_OPS:
            self.assert_row((op, None, 1))
            for arg in (0, 1, 2, True, False, "", "a", "none", [], (), {}, [None]):
                with self.subTest(op=op, arg=arg):
                    self.assert_no_row((op, arg, 1))


class MarksTest(CodesCase):
    def test_labels_ahead_and_behind(self):
        self.assert_code([("jump", 3, 1), ("label", 3, 1), ("jump", 3, 1), ("iftrue", 3, 1)])

    def test_label_that_no_row_asks_for(self):
        self.assert_code([("label", 3, 1)])

    def test_mark_that_no_label_has(self):
        for op in JUMP_OPS:
            with self.subTest(op=op):
                self.assert_bad([(op, 3, 1)], 0)
                self.assert_bad([("label", 4, 1), GOOD, (op, 3, 1), (op, 5, 1)], 2)

    def test_numbers_of_other_rows_are_no_marks(self):
        self.assert_code([("copy", 5, 1), ("swap", 5, 1), ("push", 5, 1)])
        self.assert_bad([("push", 5, 1), ("copy", 5, 1), ("jump", 5, 1)], 2)

    def test_mark_that_two_labels_have(self):
        self.assert_bad([("label", 3, 1), ("label", 3, 1)], 1)
        self.assert_bad([("jump", 3, 1), ("label", 3, 1), GOOD, ("label", 3, 2), ("label", 3, 3)], 3)

    def test_label_that_is_no_row_is_no_label(self):
        for label in (("label", 3, -1), ("label", 3, 10000), ("label", 3, True), ["label", 3, 1], ("label", 3)):
            with self.subTest(label=label):
                self.assert_bad([("jump", 3, 1), label], 0)
                self.assert_bad([GOOD, label, ("jump", 3, 1)], 1)
                self.assert_bad([("jump", 3, 1), label, ("label", 3, 1)], 1)
                self.assert_bad([("label", 3, 1), label, ("label", 3, 1)], 1)

    def test_label_of_a_truth_is_no_label(self):
        self.assert_bad([("jump", 1, 1), ("label", True, 1)], 0)

    def test_the_first_bad_place_is_told(self):
        self.assert_bad([GOOD, BAD, BAD], 1)
        self.assert_bad([("jump", 3, 1), BAD], 0)
        self.assert_bad([BAD, ("jump", 3, 1)], 0)
        self.assert_bad([("label", 3, 1), ("label", 3, 1), BAD], 1)
        self.assert_bad([("label", 3, 1), BAD, ("label", 3, 1)], 1)
        self.assert_bad([("label", 3, 1), ("label", 3, 1), ("jump", 4, 1)], 1)
        self.assert_bad([("label", 3, 1), ("jump", 4, 1), ("label", 3, 1)], 1)


class ListsTest(CodesCase):
    def test_how_many_rows(self):
        for many in (1, 2, 149, 150):
            self.assert_code([GOOD] * many)
        for many in (0, 151, 152, 300):
            with self.subTest(many=many):
                self.assert_bad([GOOD] * many, None)

    def test_length_is_told_ahead_of_places(self):
        self.assert_bad([BAD] * 150, 0)
        self.assert_bad([BAD] * 151, None)

    def test_what_is_no_list(self):
        self.assert_bad((GOOD,), None)
        self.assert_bad({0: GOOD}, None)
        self.assert_bad("1 add\n", None)
        self.assert_bad(GOOD, None)

    def test_any_thing(self):
        for thing in THINGS:
            with self.subTest(thing=thing):
                self.assert_bad(thing, 0 if isinstance(thing, list) and thing else None)

    def test_any_thing_in_each_part_of_a_row(self):
        for thing in THINGS:
            for op in ALL_OPS:
                with self.subTest(thing=thing, op=op):
                    self.assert_bad([GOOD, (op, [thing], 1)], 1)
                    self.assert_bad([GOOD, (op, None, [thing])], 1)
                    self.assert_bad([GOOD, ([op], thing, thing)], 1)


class WholeTest(CodesCase):
    def test_what_is_handed_in_stays(self):
        for thing in (every_row(), [GOOD, BAD], [["label", 3, 1], ("jump", 3, 1)]) + THINGS:
            before = copy.deepcopy(thing)
            is_code(thing)
            try:
                code_text(thing)
            except BadCode:
                pass
            self.assertEqual(kinds_of(thing), kinds_of(before))

    def test_told_again_all_is_the_same(self):
        code = every_row()
        for turn in range(3):
            self.assert_code(code)
            self.assert_bad([GOOD, BAD], 1)
            self.assert_bad([("jump", 0, 1)], 0)

    def test_nothing_is_kept_of_a_code(self):
        code = [("label", 3, 1), ("jump", 3, 1)]
        self.assert_code(code)
        del code[0]
        self.assert_bad(code, 0)
        code.append(("label", 3, 1))
        self.assert_code(code)


if __name__ == "__main__":
    unittest.main()
