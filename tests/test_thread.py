"""Promise 6.1, and of 0.1 to 0.3 what touches it: threading."""

import random
import unittest

from codemill.sound import why
from codemill.thread import is_threaded, threaded
from tests.helper import assert_betters, assert_refuses_codes, code_of, kinds_of, made_code

JUMPS = ("jump", "iftrue", "iffalse", "ortrue", "orfalse")
# Which rows may stand at the mark of another, and what becomes of that one then, as the document tells.
STEPS = {(op, "jump"): op for op in JUMPS}
STEPS[("ortrue", "ortrue")] = "ortrue"
STEPS[("ortrue", "iftrue")] = "iftrue"
STEPS[("orfalse", "orfalse")] = "orfalse"
STEPS[("orfalse", "iffalse")] = "iffalse"


def step_of(code, op, mark):
    """One step of threading, None if there is none."""
    place = [row[:2] for row in code].index(("label", mark))
    while place < len(code) and code[place][0] == "label":
        place += 1
    if place == len(code) or (op, code[place][0]) not in STEPS:
        return None
    return (STEPS[(op, code[place][0])], code[place][1])


def can_be_threaded(code, row):
    """Whether the row can be threaded: it has a step, and its steps end."""
    if row[0] not in JUMPS or step_of(code, row[0], row[1]) is None:
        return False
    way = row[:2]
    for count in range(5 * 100 + 1):
        way = step_of(code, *way)
        if way is None:
            return True
    return False


def is_left(code):
    return any(can_be_threaded(code, row) for row in code)


class ThreadTest(unittest.TestCase):
    def assert_threads(self, code):
        found = assert_betters(self, threaded, is_threaded, code, is_left)
        self.assertEqual(len(found), len(code))
        for row, other in zip(code, found):
            if not can_be_threaded(code, row):
                self.assertEqual(kinds_of(row), kinds_of(other))
            else:
                self.assertNotEqual(row[:2], other[:2])
        return found

    def assert_row(self, rows, at, row):
        """Check that of the code of these rows the one at the place becomes the row, and all others stay."""
        code = code_of(*rows)
        found = self.assert_threads(code)
        self.assertEqual(found[at][:2], row)
        self.assertEqual(kinds_of(found[:at] + found[at + 1:]), kinds_of(code[:at] + code[at + 1:]))

    def assert_stays(self, *rows):
        code = code_of(*rows)
        self.assertEqual(kinds_of(self.assert_threads(code)), kinds_of(code))

    def rows_onto(self, op, other):
        """A sound code with the op at place 2, onto another one of mark 2; None if there is no such code."""
        # How deep the stack is where each of both has gone, from 2 on.
        deep = {"jump": 2, "iftrue": 1, "iffalse": 1, "ortrue": 2, "orfalse": 2}[op]
        gone = deep if other in ("jump", "ortrue", "orfalse") else deep - 1
        return [("load", "a"), ("load", "b"), (op, 1), ("push", 3), "return", ("label", 1), (other, 2), ("push", 4), "return",
                ("label", 2), *["tell"] * gone, ("push", 5), "return"]

    def test_each_row_onto_each(self):
        for op in JUMPS:
            for other in JUMPS:
                rows = self.rows_onto(op, other)
                with self.subTest(op=op, other=other):
                    self.assertIsNone(why(code_of(*rows)))
                    if (op, other) in STEPS:
                        self.assert_row(rows, 2, (STEPS[(op, other)], 2))
                    else:
                        self.assert_stays(*rows)

    def test_what_is_threaded_by_name(self):
        for op, other, found in (
            ("jump", "jump", "jump"), ("iftrue", "jump", "iftrue"), ("iffalse", "jump", "iffalse"), ("ortrue", "jump", "ortrue"),
            ("orfalse", "jump", "orfalse"), ("ortrue", "ortrue", "ortrue"), ("ortrue", "iftrue", "iftrue"),
            ("orfalse", "orfalse", "orfalse"), ("orfalse", "iffalse", "iffalse"),
        ):
            code = code_of(*self.rows_onto(op, other))
            self.assertEqual(threaded(code)[2][:2], (found, 2))
        for op, other in (
            ("iftrue", "ortrue"), ("iftrue", "orfalse"), ("iffalse", "ortrue"), ("iffalse", "orfalse"), ("iftrue", "iftrue"),
            ("iffalse", "iffalse"), ("jump", "iftrue"), ("jump", "ortrue"), ("ortrue", "orfalse"), ("ortrue", "iffalse"),
            ("orfalse", "ortrue"), ("orfalse", "iftrue"),
        ):
            code = code_of(*self.rows_onto(op, other))
            self.assertEqual(kinds_of(threaded(code)), kinds_of(code))

    def test_other_rows_at_the_mark(self):
        for row in (("push", 1), ("try", 3), "endtry", "tell", "return", "raise", "not", ("load", "a")):
            rows = [("push", 1), ("push", 2), ("try", 9), ("push", 3), ("jump", 1), ("label", 1), row, ("push", 4), "return"]
            rows += [("label", 3), "return", ("label", 9), "return"]
            self.assert_stays(*rows)

    def test_no_row_at_the_mark(self):
        self.assert_stays(("push", 1), "return", ("jump", 0), ("label", 0))
        self.assert_stays(("push", 1), "return", ("ortrue", 0), ("label", 0), ("label", 1))

    def test_labels_directly_behind_one_another(self):
        rows = [("jump", 1), ("push", 1), "return", ("label", 0), ("label", 1), ("label", 2), ("jump", 3), ("label", 4), ("label", 3),
                ("push", 2), "return"]
        self.assert_row(rows, 0, ("jump", 3))
        rows[0] = ("jump", 2)
        self.assert_row(rows, 0, ("jump", 3))

    def test_several_steps(self):
        rows = [("jump", 1), ("label", 3), ("jump", 4), ("label", 1), ("jump", 2), ("label", 4), ("push", 1), "return", ("label", 2), ("jump", 3)]
        code = code_of(*rows)
        found = self.assert_threads(code)
        self.assertEqual([row[:2] for row in found if row[0] == "jump"], [("jump", 4)] * 4)

    def test_several_steps_of_several_sorts(self):
        rows = [("load", "a"), ("ortrue", 1), ("push", 1), "return",
                ("label", 1), ("jump", 2), ("label", 2), ("ortrue", 3), ("push", 2), "return",
                ("label", 3), ("iftrue", 4), ("push", 3), "return",
                ("label", 4), ("jump", 5), ("label", 5), ("push", 6), "return"]
        found = self.assert_threads(code_of(*rows))
        self.assertEqual(found[1][:2], ("iftrue", 5))
        self.assertEqual(found[5][:2], ("jump", 2))
        self.assertEqual(found[7][:2], ("iftrue", 5))
        self.assertEqual(found[11][:2], ("iftrue", 5))
        rows = [(op.replace("true", "false"), arg) for op, arg in [row if isinstance(row, tuple) else (row, None) for row in rows]]
        found = self.assert_threads(code_of(*rows))
        self.assertEqual(found[1][:2], ("iffalse", 5))

    def test_a_row_that_comes_round_to_itself(self):
        self.assert_stays(("label", 0), ("jump", 0))
        self.assert_stays(("label", 1), ("label", 0), ("jump", 0))
        self.assert_stays(("label", 1), ("label", 0), ("jump", 1))
        self.assert_stays(("load", "a"), ("label", 0), ("ortrue", 0), ("push", 1), "return")
        self.assert_stays(("load", "a"), ("label", 0), ("orfalse", 0), ("push", 1), "return")

    def test_several_rows_that_come_round(self):
        self.assert_stays(("label", 0), ("jump", 1), ("label", 1), ("jump", 2), ("label", 2), ("jump", 0))
        self.assert_stays(("load", "a"), ("label", 0), ("ortrue", 1), ("push", 1), "return", ("label", 1), ("ortrue", 0), ("push", 1), "return")
        self.assert_stays(("load", "a"), ("label", 0), ("orfalse", 1), ("push", 1), "return", ("label", 1), ("orfalse", 0), ("push", 1), "return")
        # The ortrue comes round by the jump, which ends at the ortrue itself.
        self.assert_stays(("load", "a"), ("label", 0), ("ortrue", 1), ("push", 1), "return", ("label", 1), ("jump", 0))

    def test_a_way_into_a_round(self):
        self.assert_stays(("jump", 5), ("label", 5), ("jump", 0), ("label", 0), ("jump", 1), ("label", 1), ("jump", 0))
        for op in ("iftrue", "iffalse"):
            self.assert_stays(("load", "a"), (op, 5), ("push", 1), "return", ("label", 5), ("jump", 0), ("label", 0), ("jump", 1),
                              ("label", 1), ("jump", 0))
        self.assert_stays(("load", "a"), ("ortrue", 5), ("push", 1), "return", ("label", 5), ("jump", 6), ("label", 6), ("ortrue", 7),
                          ("push", 1), "return", ("label", 7), ("ortrue", 6), ("push", 1), "return")

    def test_a_jump_within_a_round_of_others_is_threaded(self):
        rows = [("load", "a"), ("label", 0), ("ortrue", 1), ("push", 1), "return", ("label", 1), ("jump", 2), ("label", 2), ("jump", 0)]
        code = code_of(*rows)
        found = self.assert_threads(code)
        self.assertEqual(found[6][:2], ("jump", 0))
        self.assertEqual(found[2], code[2])
        self.assertEqual(found[8], code[8])

    def test_rows_to_which_no_walk_comes(self):
        rows = [("push", 1), "return", ("iftrue", 1), ("label", 1), ("jump", 2), ("label", 2), "return"]
        self.assert_row(rows, 2, ("iftrue", 2))

    def test_within_guards(self):
        rows = [("push", 1), ("try", 8), ("load", "a"), ("iftrue", 1), ("load", "b"), "return", ("label", 1), ("jump", 2), ("label", 2),
                "endtry", "return", ("label", 8), "tell", "return"]
        self.assert_row(rows, 3, ("iftrue", 2))
        # A try or an endtry must not be jumped over.
        self.assert_stays(("jump", 1), ("label", 1), ("try", 8), ("jump", 2), ("label", 2), "endtry", ("push", 1), "return",
                          ("label", 8), "return")

    def test_codes_made_by_chance(self):
        changed = 0
        for seed in range(300):
            code = made_code(seed)
            changed += self.assert_threads(code) != code
        self.assertGreater(changed, 60)

    def test_nets_of_jumps_made_by_chance(self):
        changed = 0
        for seed in range(400):
            chance = random.Random(seed)
            rows = [("load", "a", 3)]
            for mark in range(6):
                rows.append(("label", mark, 1))
                rows += [("label", 10 + mark, 1)] * (chance.random() < 0.2)
                op = chance.choice(("jump", "jump", "ortrue", "orfalse"))
                rows.append((op, chance.choice((0, 1, 2, 3, 4, 5)), 10 + mark))
                if op != "jump":
                    rows.append(("load", "b", 20 + mark))
            rows.append(("return", None, 9))
            changed += self.assert_threads(rows) != rows
        self.assertGreater(changed, 200)

    def test_refusals(self):
        for ask in (threaded, is_threaded):
            assert_refuses_codes(self, ask)


if __name__ == "__main__":
    unittest.main()
