"""Promise 7.1, and of 0.1 to 0.3 what touches it: pruning."""

import unittest

from codemill.prune import is_pruned, pruned
from codemill.sound import states
from tests.helper import assert_betters, assert_refuses_codes, code_of, is_subsequence, made_code

MARKED = ("jump", "iftrue", "iffalse", "ortrue", "orfalse", "try")


def is_needless(code, place, found):
    """Whether the row is needless, as the document tells, found being the states."""
    op, arg, line = code[place]
    if op == "label":
        return not any(row[0] in MARKED and row[1] == arg and state is not None for row, state in zip(code, found))
    if found[place] is None:
        return True
    if op not in ("jump", "iftrue", "iffalse"):
        return False
    behind = place + 1
    while behind < len(code) and code[behind][0] == "label":
        if code[behind][1] == arg:
            return True
        behind += 1
    return False


def is_left(code):
    found = states(code)
    return any(is_needless(code, place, found) for place in range(len(code)))


class PruneTest(unittest.TestCase):
    def assert_prunes(self, code):
        found = assert_betters(self, pruned, is_pruned, code, is_left)
        # A drop may stand where an iftrue or an iffalse was.
        dropped = [("drop", None, row[2]) if row[0] in ("iftrue", "iffalse") and row not in found else row for row in code]
        self.assertTrue(is_subsequence(found, dropped), (code, found))
        return found

    def assert_rows(self, rows, others):
        """Check that the rows become the others, which say each row's place too, or (op, arg) of one that is put in."""
        code = code_of(*rows)
        found = self.assert_prunes(code)
        self.assertEqual(len(found), len(others), found)
        for row, other in zip(found, others):
            if isinstance(other, int):
                self.assertEqual(row, code[other])
            else:
                self.assertEqual(row[:2], other)

    def assert_stays(self, *rows):
        self.assert_rows(rows, list(range(len(rows))))

    def test_rows_to_which_no_walk_comes(self):
        self.assert_rows([("push", 1), "return", ("push", 2), "drop", "add", ("copy", 9)], [0, 1])
        self.assert_rows([("load", "a"), "raise", ("push", 2), "return"], [0, 1])
        self.assert_rows([("label", 0), ("push", 1), "tell", ("jump", 0), ("push", 2), "return"], [0, 1, 2, 3])
        self.assert_rows([("push", 1), ("jump", 4), "tell", ("push", 2), ("label", 4), "return"], [0, 5])

    def test_tries_and_endtries_to_which_no_walk_comes(self):
        self.assert_rows([("push", 1), "return", ("try", 3), ("load", "a"), "endtry", "return", ("label", 3), "return"], [0, 1])
        self.assert_rows([("push", 1), "return", "endtry"], [0, 1])

    def test_labels_whose_mark_no_row_has(self):
        self.assert_rows([("label", 1), ("push", 1), ("label", 2), "return", ("label", 3)], [1, 3])
        self.assert_rows([("label", 1), ("label", 2), ("push", 1), "tell", ("jump", 2)], [1, 2, 3, 4])

    def test_labels_whose_mark_only_needless_rows_have(self):
        self.assert_rows([("push", 1), ("label", 3), "return", ("jump", 3)], [0, 2])
        self.assert_rows([("push", 1), ("label", 3), ("label", 4), "return", ("try", 3), ("iftrue", 4)], [0, 3])

    def test_a_label_that_is_needed(self):
        for op in ("iftrue", "iffalse"):
            self.assert_stays(("load", "a"), (op, 1), ("push", 1), "return", ("label", 1), ("push", 2), "return")
        for op in ("ortrue", "orfalse"):
            self.assert_stays(("load", "a"), (op, 1), ("push", 1), ("label", 1), "return")
        self.assert_stays(("try", 1), ("load", "a"), "return", ("label", 1), "return")

    def test_a_label_to_which_no_walk_comes_may_be_needed_by_a_try(self):
        self.assert_rows([("try", 1), ("push", 1), "return", ("label", 1), "return"], [0, 1, 2, 3])
        self.assert_stays(("try", 1), ("push", 1), "return", ("label", 1))
        self.assert_rows([("try", 1), ("push", 1), "endtry", "return", ("label", 2), "return", ("label", 1), "tell", ("jump", 2)], [0, 1, 2, 3, 6])

    def test_jumps_to_the_next_row(self):
        self.assert_rows([("push", 1), ("jump", 1), ("label", 1), "return"], [0, 3])
        self.assert_rows([("push", 1), ("jump", 1), ("label", 2), ("label", 1), ("label", 3), "return"], [0, 5])
        for op in ("iftrue", "iffalse"):
            self.assert_rows([("push", 1), ("load", "a"), (op, 1), ("label", 1), "return"], [0, 1, ("drop", None), 4])
            self.assert_rows([("push", 1), ("load", "a"), (op, 1), ("label", 2), ("label", 1), "return"], [0, 1, ("drop", None), 5])

    def test_a_label_that_others_need_stays_behind_the_drop(self):
        for op in ("iftrue", "iffalse"):
            self.assert_rows([("load", "a"), (op, 1), ("label", 1), ("push", 5), "tell", ("jump", 1)], [0, ("drop", None), 2, 3, 4, 5])
            self.assert_rows([("load", "a"), (op, 1), ("label", 2), ("label", 1), ("push", 5), "tell", ("jump", 1)],
                             [0, ("drop", None), 3, 4, 5, 6])
        self.assert_rows([("jump", 1), ("label", 1), ("push", 5), "tell", ("jump", 1)], [1, 2, 3, 4])

    def test_jumps_elsewhere_stay(self):
        self.assert_stays(("label", 1), ("jump", 1))
        self.assert_stays(("load", "a"), ("iftrue", 1), ("push", 2), "tell", ("label", 1), ("push", 1), "return")
        self.assert_stays(("label", 1), ("load", "a"), ("iftrue", 1), ("push", 1), "return")
        # The label lies ahead, though one that comes next has the same sort.
        self.assert_rows([("label", 1), ("load", "a"), ("iftrue", 1), ("label", 2), ("push", 1), "return"], [0, 1, 2, 4, 5])
        # A try or an endtry between is no label.
        self.assert_stays(("load", "a"), ("iftrue", 1), ("try", 2), "endtry", ("label", 1), ("push", 1), "return", ("label", 2))

    def test_ortrue_and_orfalse_stay(self):
        for op in ("ortrue", "orfalse"):
            self.assert_stays(("load", "a"), (op, 1), ("load", "b"), ("label", 1), "return")
            self.assert_rows([("load", "a"), (op, 1), ("jump", 2), ("label", 2), ("load", "b"), ("label", 1), "return"], [0, 1, 4, 5, 6])

    def test_what_becomes_needless_by_taking_others_out(self):
        # The rows between go, so the jump comes to its label, which no row asks for then.
        self.assert_rows([("push", 1), ("jump", 1), ("push", 2), "tell", ("label", 1), "return"], [0, 5])
        # The second jump goes, so the first one comes to its label.
        self.assert_rows([("load", "a"), ("iftrue", 5), ("jump", 6), ("label", 6), ("label", 5), ("push", 1), "return"],
                         [0, ("drop", None), 5, 6])
        self.assert_rows([("jump", 1), ("label", 2), ("jump", 3), ("label", 1), ("label", 3), ("push", 1), "return"], [5, 6])
        rows = [("push", 1)]
        for mark in range(20):
            rows.append(("jump", mark))
        rows += [("label", mark) for mark in range(20)]
        self.assert_rows([*rows, "return"], [0, 41])
        rows = [("jump", mark) for mark in range(5)] + [("label", mark) for mark in (4, 3, 2, 1, 0)]
        self.assert_rows([*rows, ("push", 1), "return"], [10, 11])

    def test_a_drop_keeps_others_apart(self):
        self.assert_rows([("load", "a"), ("load", "b"), ("iftrue", 1), ("iffalse", 2), ("label", 2), ("push", 1), "return", ("label", 1), "return"],
                         [0, 1, 2, ("drop", None), 5, 6, 7, 8])

    def test_the_others_stay_in_their_order(self):
        self.assert_rows(
            [("label", 9), ("load", "a"), "tell", ("jump", 3), ("push", 5), ("label", 4), ("load", "b"), "return", ("label", 3), ("try", 4),
             ("load", "c"), "endtry", ("iffalse", 2), ("label", 2), ("load", "d"), "raise", "endtry"],
            [1, 2, 3, 5, 6, 7, 8, 9, 10, 11, ("drop", None), 14, 15],
        )

    def test_codes_made_by_chance(self):
        changed = 0
        for seed in range(300):
            code = made_code(seed)
            found = self.assert_prunes(code)
            changed += found != code
            for row, state in zip(found, states(found)):
                self.assertTrue(state is not None or row[0] == "label")
        self.assertGreater(changed, 200)

    def test_refusals(self):
        for ask in (pruned, is_pruned):
            assert_refuses_codes(self, ask)


if __name__ == "__main__":
    unittest.main()
