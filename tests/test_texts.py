"""Promise 1.2, and of 0.1 to 0.3 what touches it: codes written as texts and read back."""

import copy
import re
import unittest

from codemill.errors import BadCode, BadText
from codemill.texts import code_text, read_code
from tests.helper import BARE_OPS, JUMP_OPS, NAME_OPS, THINGS, every_row, kinds_of

# The form of a line, told apart from the program, by a pattern. Labels and jumps are told by the marks test.
MARK = "(?:0|[1-9][0-9]?)"
ROW = re.compile(
    "(?:0|[1-9][0-9]{0,3}) (?:"
    "push (?:none|true|false|'[A-Za-z]{1,8}'|0|-?[1-9][0-9]{0,8}|-?1000000000)"
    "|(?:" + "|".join(NAME_OPS) + ") [a-z]{1,4}"
    "|copy [1-9]|swap [2-9]"
    "|label " + MARK + "|(?:" + "|".join(JUMP_OPS) + ") " + MARK +
    "|" + "|".join(BARE_OPS) + ")"
)
EDITS = " 0129-+_'aZ\t\r.\u0661\u00e9"


class TextsCase(unittest.TestCase):
    def assert_written(self, code, text):
        self.assertEqual(code_text(code), text)
        self.assertEqual(kinds_of(read_code(text)), kinds_of(code))

    def assert_bad(self, text, at):
        with self.assertRaises(BadText, msg=repr(text)) as raised:
            read_code(text)
        self.assertEqual(kinds_of(raised.exception.at), kinds_of(at), repr(text))

    def assert_no_row(self, written):
        self.assert_bad("1 add\n" + written + "\n2 sub\n", 1)


class WrittenTest(TextsCase):
    def test_values_of_push(self):
        self.assert_written([("push", None, 0)], "0 push none\n")
        self.assert_written([("push", True, 1)], "1 push true\n")
        self.assert_written([("push", False, 10)], "10 push false\n")
        self.assert_written([("push", 0, 1)], "1 push 0\n")
        self.assert_written([("push", 1, 1)], "1 push 1\n")
        self.assert_written([("push", -1, 1)], "1 push -1\n")
        self.assert_written([("push", 10 ** 9, 1)], "1 push 1000000000\n")
        self.assert_written([("push", -10 ** 9, 9999)], "9999 push -1000000000\n")

    def test_kinds_of_push(self):
        self.assert_written([("push", "a", 1)], "1 push 'a'\n")
        self.assert_written([("push", "abcdEFGH", 1)], "1 push 'abcdEFGH'\n")
        self.assert_written([("push", "none", 1)], "1 push 'none'\n")
        self.assert_written([("push", "true", 1)], "1 push 'true'\n")

    def test_names(self):
        for op in NAME_OPS:
            self.assert_written([(op, "a", 1)], f"1 {op} a\n")
            self.assert_written([(op, "none", 1)], f"1 {op} none\n")
            self.assert_written([(op, "zzzz", 1)], f"1 {op} zzzz\n")

    def test_numbers_of_copy_and_swap(self):
        self.assert_written([("copy", 1, 1)], "1 copy 1\n")
        self.assert_written([("copy", 9, 1)], "1 copy 9\n")
        self.assert_written([("swap", 2, 1)], "1 swap 2\n")
        self.assert_written([("swap", 9, 1)], "1 swap 9\n")

    def test_marks(self):
        self.assert_written([("label", 0, 1)], "1 label 0\n")
        for op in JUMP_OPS:
            self.assert_written([(op, 0, 1), ("label", 0, 2)], f"1 {op} 0\n2 label 0\n")
            self.assert_written([("label", 99, 1), (op, 99, 2)], f"1 label 99\n2 {op} 99\n")

    def test_ops_without_arg(self):
        for op in BARE_OPS:
            self.assert_written([(op, None, 0)], f"0 {op}\n")

    def test_every_row(self):
        code = every_row()
        self.assertEqual(kinds_of(read_code(code_text(code))), kinds_of(code))

    def test_how_many_rows(self):
        for many in (1, 2, 149, 150):
            self.assert_written([("add", None, 7)] * many, "7 add\n" * many)

    def test_bad_codes_are_not_written(self):
        for code, at in (([], None), ([("add", 1, 1)], 0), ([("add", None, 1), ("jump", 1, 1)], 1), (None, None)):
            with self.assertRaises(BadCode) as raised:
                code_text(code)
            self.assertEqual(kinds_of(raised.exception.at), kinds_of(at))


class LinesTest(TextsCase):
    def test_needless_noughts(self):
        for written in ("01 add", "00 add", "0000 add", "1 push 01", "1 push 00", "1 push -01", "1 copy 01"):
            with self.subTest(written=written):
                self.assert_no_row(written)
        for written in ("1 swap 02", "1 label 00", "1 label 01", "1 label 099", "00001 add", "1 push 0000000001"):
            with self.subTest(written=written):
                self.assert_no_row(written)

    def test_signs_ahead_of_numbers(self):
        for number in ("+1", "-0", "+0", "--1", "-", "+", "- 1", "-+1", "1-"):
            with self.subTest(number=number):
                self.assert_no_row(f"1 push {number}")
                self.assert_no_row(f"{number} add")
                self.assert_no_row(f"1 label {number}")
                self.assert_no_row(f"1 copy {number}")

    def test_numbers_in_other_figures(self):
        for number in ("1_0", "0x1", "1e3", "1.0", "1.", "\u0661", "\uff11", "\u00b2", "1\u0661", "", "1\t", "\t1", "1\r"):
            with self.subTest(number=number):
                self.assert_no_row(f"1 push {number}")
                self.assert_no_row(f"{number} add")
                self.assert_no_row(f"1 label {number}")

    def test_numbers_beyond_their_bounds(self):
        for written in ("10000 add", "-1 add", "1 push 1000000001", "1 push -1000000001", "1 copy 0", "1 copy 10"):
            with self.subTest(written=written):
                self.assert_no_row(written)
        for written in ("1 swap 1", "1 swap 10", "1 label 100", "1 label -1", "1 jump 100", "1 copy -1"):
            with self.subTest(written=written):
                self.assert_no_row(written)

    def test_numbers_of_very_many_figures(self):
        for many in (11, 15, 4300, 4301, 10000):
            self.assert_no_row("1 push " + "9" * many)
            self.assert_no_row("1 push -" + "9" * many)
            self.assert_no_row("1 push " + "0" * many)
            self.assert_no_row("9" * many + " add")
            self.assert_no_row("1 label " + "9" * many)

    def test_blanks(self):
        for written in (" 1 add", "1 add ", "1  add", "1add", "1 push  1", "1 push 1 ", "1 push1", "1push 1"):
            with self.subTest(written=written):
                self.assert_no_row(written)
        for written in ("", " ", "  ", "1", "1 ", "add", " add", "push 1", "1\tadd", "1 push\t1", "1 add\r", "1 add\t"):
            with self.subTest(written=written):
                self.assert_no_row(written)

    def test_arg_that_the_op_has_not(self):
        for op in BARE_OPS:
            for arg in ("none", "0", "1", "a", "'a'", ""):
                with self.subTest(op=op, arg=arg):
                    self.assert_no_row(f"1 {op} {arg}")

    def test_arg_left_out(self):
        for op in ("push", "copy", "swap", "label") + NAME_OPS + JUMP_OPS:
            with self.subTest(op=op):
                self.assert_no_row(f"1 {op}")
                self.assert_no_row(f"1 {op} ")

    def test_two_args(self):
        for written in ("1 push 1 2", "1 load a b", "1 push none none", "1 push 'a' 'b'", "1 push 'a b'"):
            with self.subTest(written=written):
                self.assert_no_row(written)

    def test_kinds(self):
        for word in ("a", "Unset", "'a", "a'", "'", "''", "'''", "'a''", "''a'", "\"a\"", "'abcdefghi'", "'a1'"):
            with self.subTest(word=word):
                self.assert_no_row(f"1 push {word}")
        for word in ("None", "True", "False", "'\u00e9'", "'ab\"", "'none", "`a`", "'1'"):
            with self.subTest(word=word):
                self.assert_no_row(f"1 push {word}")

    def test_names(self):
        for op in NAME_OPS:
            for name in ("A", "abcde", "'a'", "a1", "1", "\u00e9", "aB"):
                with self.subTest(op=op, name=name):
                    self.assert_no_row(f"1 {op} {name}")

    def test_words_that_are_no_args(self):
        for word in ("none", "true", "a", "'a'"):
            for op in ("copy", "swap", "label") + JUMP_OPS:
                with self.subTest(op=op, word=word):
                    self.assert_no_row(f"1 {op} {word}")

    def test_other_ops(self):
        for op in ("", "Add", "ADD", "adds", "ad", "more", "none", "nop"):
            with self.subTest(op=op):
                self.assert_no_row(f"1 {op}")
                self.assert_no_row(f"1 {op} 1")


class PatternTest(TextsCase):
    """Each text that is one edit away from a written row is read just where the pattern tells one."""

    def edited(self, written):
        yield written
        for at in range(len(written) + 1):
            for sign in EDITS:
                yield written[:at] + sign + written[at:]
                yield written[:at] + sign + written[at + 1:]
            yield written[:at] + written[at + 1:]

    def test_each_edit(self):
        for row in every_row() + [("push", -205, 8), ("push", 999999999, 8), ("load", "ab", 1024)]:
            for written in self.edited(code_text([row] + self.label_for(row)).split("\n")[0]):
                self.assert_like_pattern(written)

    def label_for(self, row):
        return [("label", row[1], 1)] if row[0] in JUMP_OPS else []

    def assert_like_pattern(self, written):
        if ROW.fullmatch(written) is None:
            self.assert_bad(written + "\n", 0)
            return
        words = written.split(" ")
        more = f"1 label {words[2]}\n" if words[1] in JUMP_OPS else ""
        self.assertEqual(code_text(read_code(written + "\n" + more)), written + "\n" + more)


class WholeTextTest(TextsCase):
    def test_no_line_feed_at_the_end(self):
        for text in ("", "1 add", "1 add\n1 sub", "1 add\n ", "1 add\n\r", "1 add\r"):
            with self.subTest(text=text):
                self.assert_bad(text, None)

    def test_a_line_feed_too_many(self):
        self.assert_bad("\n", 0)
        self.assert_bad("\n\n", 0)
        self.assert_bad("1 add\n\n", 1)
        self.assert_bad("\n1 add\n", 0)
        self.assert_bad("1 add\n\n1 sub\n", 1)
        self.assert_bad("1 push\n1\n", 0)

    def test_a_line_feed_left_out(self):
        self.assert_bad("1 add1 sub\n", 0)
        self.assert_bad("1 add 1 sub\n", 0)

    def test_other_ends_of_lines(self):
        for end in ("\r", "\r\n", "\x0b", "\x0c", "\x1c", "\x85", "\u2028"):
            with self.subTest(end=end):
                self.assert_bad("1 add" + end + "1 sub\n", 0)
                self.assert_bad("1 add" + end + "\n", 0)

    def test_how_many_lines(self):
        self.assert_bad("1 add\n" * 151, None)
        self.assert_bad("\n" * 151, None)
        self.assert_bad("\n" * 150, 0)
        self.assert_bad("1 add\n" * 150 + "1 add", None)
        self.assert_bad("1 add\n" * 149 + "1 ad\n", 149)

    def test_the_first_line_that_writes_no_row(self):
        self.assert_bad("1 add\nx\ny\n", 1)
        self.assert_bad("x\n1 add\ny\n", 0)
        self.assert_bad("1 add\n1 add\nx\n", 2)

    def test_rows_are_told_ahead_of_marks(self):
        self.assert_bad("1 jump 3\nx\n", 1)
        self.assert_bad("1 label 3\n1 label 3\n1 add 1\n", 2)
        self.assert_bad("1 jump 3\n1 label 3 \n", 1)

    def test_marks_that_no_label_has(self):
        for op in JUMP_OPS:
            self.assert_bad(f"1 {op} 3\n", 0)
            self.assert_bad(f"1 label 4\n1 add\n1 {op} 3\n1 {op} 5\n", 2)

    def test_marks_that_two_labels_have(self):
        self.assert_bad("1 label 3\n2 label 3\n", 1)
        self.assert_bad("1 jump 3\n1 label 3\n1 add\n1 label 3\n1 label 3\n", 3)
        self.assert_bad("1 label 3\n1 label 3\n1 jump 4\n", 1)
        self.assert_bad("1 label 3\n1 jump 4\n1 label 3\n", 1)

    def test_any_thing(self):
        for thing in THINGS + (["1 add\n"], ("1 add\n",), {"1 add\n": 1}):
            with self.subTest(thing=thing):
                ends = isinstance(thing, str) and thing.endswith("\n")
                self.assert_bad(thing, 0 if ends else None)


class WholeTest(TextsCase):
    def test_a_list_that_is_told_is_a_new_one(self):
        text = code_text(every_row())
        first = read_code(text)
        first.clear()
        second = read_code(text)
        self.assertEqual(kinds_of(second), kinds_of(every_row()))
        second[0] = None
        self.assertEqual(kinds_of(read_code(text)), kinds_of(every_row()))

    def test_told_again_all_is_the_same(self):
        code = every_row()
        first = code_text(code)
        for turn in range(3):
            self.assertEqual(code_text(code), first)
            self.assert_bad("1 add\nx\n", 1)
            self.assert_bad("1 jump 0\n", 0)

    def test_what_is_handed_in_stays(self):
        code = every_row()
        code_text(code)
        self.assertEqual(kinds_of(code), kinds_of(every_row()))
        for thing in THINGS:
            before = copy.deepcopy(thing)
            with self.assertRaises(BadText):
                read_code(thing)
            self.assertEqual(kinds_of(thing), kinds_of(before))

    def test_nothing_is_kept_of_a_code(self):
        code = [("add", None, 1)]
        self.assertEqual(code_text(code), "1 add\n")
        code.append(("sub", None, 2))
        self.assertEqual(code_text(code), "1 add\n2 sub\n")


if __name__ == "__main__":
    unittest.main()
