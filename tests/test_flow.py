"""Promise 4.1, and of 0.1 to 0.3 what touches it: follows, blocks, links, must."""

import copy
import unittest

from codemill.flow import blocks, follows, links, must
from codemill.sound import states
from tests.helper import assert_refuses_codes, code_of, kinds_of, made_code

ENDS = ("jump", "iftrue", "iffalse", "ortrue", "orfalse", "return", "raise")


def must_of(nexts):
    """The blocks that each walk to a block passes, by cutting down from all of them till nothing changes."""
    come = {0}
    waiting = [0]
    while waiting:
        for block in nexts[waiting.pop()]:
            if block not in come:
                come.add(block)
                waiting.append(block)
    passed = {block: set(come) for block in come}
    passed[0] = {0}
    changed = True
    while changed:
        changed = False
        for block in come - {0}:
            ahead = [passed[other] for other in come if block in nexts[other]]
            found = set.intersection(*ahead) | {block}
            changed = changed or found != passed[block]
            passed[block] = found
    return [sorted(passed.get(block, ())) for block in range(len(nexts))]


class FlowTest(unittest.TestCase):
    def assert_flow(self, code, goals, pairs, nexts, passed):
        self.assertEqual(kinds_of(follows(code)), kinds_of(goals))
        self.assertEqual(kinds_of(blocks(code)), kinds_of(pairs))
        self.assertEqual(kinds_of(links(code)), kinds_of(nexts))
        self.assertEqual(kinds_of(must(code)), kinds_of(passed))

    def test_straight_codes(self):
        self.assert_flow(code_of(("push", 1), "return"), [[1], []], [(0, 2)], [[]], [[0]])
        self.assert_flow(code_of(("push", 1), "tell", ("load", "a"), "raise"), [[1], [2], [3], []], [(0, 4)], [[]], [[0]])

    def test_a_block_begins_behind_each_row_that_ends_one(self):
        for op in ENDS:
            arg = None if op in ("return", "raise") else 0
            rows = [("push", 1), ("push", 1), (op, arg), ("push", 2), "return", ("label", 0), ("push", 3), "return"]
            with self.subTest(op=op):
                if op in ("ortrue", "orfalse"):
                    rows[2:4] = [(op, arg), "drop", ("push", 2)]
                    self.assertEqual(blocks(code_of(*rows)), [(0, 3), (3, 6), (6, 9)])
                else:
                    self.assertEqual(blocks(code_of(*rows)), [(0, 3), (3, 5), (5, 8)])

    def test_no_block_begins_behind_other_rows(self):
        code = code_of(("push", 1), ("try", 0), ("load", "a"), "drop", ("clear", "a"), ("push", 1), ("push", 2), "div", "tell",
                       "endtry", "return", ("label", 0), "return")
        self.assertEqual(blocks(code), [(0, 11), (11, 13)])

    def test_a_choice(self):
        code = code_of(("quick", "a"), ("iftrue", 1), ("push", 1), "tell", ("jump", 2), ("label", 1), ("push", 2), "tell",
                       ("label", 2), ("push", 3), "return")
        self.assert_flow(
            code, [[1], [2, 5], [3], [4], [8], [6], [7], [8], [9], [10], []],
            [(0, 2), (2, 5), (5, 8), (8, 11)], [[1, 2], [3], [3], []], [[0], [0, 1], [0, 2], [0, 3]],
        )

    def test_or_rows_go_both_ways(self):
        for op in ("ortrue", "orfalse"):
            code = code_of(("quick", "a"), (op, 1), ("push", 1), ("label", 1), "return")
            self.assert_flow(code, [[1], [2, 3], [3], [4], []], [(0, 2), (2, 3), (3, 5)], [[1, 2], [2], []], [[0], [0, 1], [0, 2]])

    def test_a_conditional_jump_to_the_next_place(self):
        code = code_of(("quick", "a"), ("iffalse", 1), ("label", 1), ("push", 1), "return")
        self.assert_flow(code, [[1], [2], [3], [4], []], [(0, 2), (2, 5)], [[1], []], [[0], [0, 1]])

    def test_rounds(self):
        code = code_of(("label", 0), ("jump", 0))
        self.assert_flow(code, [[1], [0]], [(0, 2)], [[0]], [[0]])
        code = code_of(("push", 3), ("label", 0), ("push", 1), "sub", ("copy", 1), ("iftrue", 0), "return")
        self.assert_flow(
            code, [[1], [2], [3], [4], [5], [1, 6], []], [(0, 1), (1, 6), (6, 7)], [[1], [1, 2], []], [[0], [0, 1], [0, 1, 2]],
        )

    def test_rounds_within_rounds(self):
        code = code_of(("label", 0), ("label", 1), ("quick", "a"), ("iftrue", 1), ("quick", "b"), ("iftrue", 0), ("push", 1), "return")
        self.assert_flow(
            code, [[1], [2], [3], [1, 4], [5], [0, 6], [7], []], [(0, 1), (1, 4), (4, 6), (6, 8)],
            [[1], [1, 2], [0, 3], []], [[0], [0, 1], [0, 1, 2], [0, 1, 2, 3]],
        )

    def test_guards(self):
        code = code_of(("push", 1), ("try", 5), ("load", "a"), "tell", ("clear", "a"), "endtry", ("load", "b"), "return",
                       ("label", 5), "return")
        self.assert_flow(
            code, [[1], [2], [3, 8], [4], [5, 8], [6], [7], [], [9], []], [(0, 8), (8, 10)], [[1], []], [[0], [0, 1]],
        )

    def test_a_fault_leads_back(self):
        code = code_of(("label", 0), ("try", 1), ("load", "a"), "return", ("label", 1), "drop", ("jump", 0))
        self.assert_flow(
            code, [[1], [2], [3, 4], [], [5], [6], [0]], [(0, 4), (4, 7)], [[1], [0]], [[0], [0, 1]],
        )

    def test_a_raise_within_a_guard(self):
        code = code_of(("try", 1), ("push", "Odd"), "raise", ("label", 1), "return")
        self.assert_flow(code, [[1], [2], [3], [4], []], [(0, 3), (3, 5)], [[1], []], [[0], [0, 1]])

    def test_a_fault_to_the_next_place(self):
        code = code_of(("push", 1), ("try", 1), ("push", "Odd"), "raise", ("label", 1), "drop", "return")
        self.assertEqual(follows(code)[3], [4])

    def test_rows_to_which_no_walk_comes(self):
        code = code_of(("push", 1), ("jump", 1), ("push", 2), ("jump", 2), ("label", 2), ("jump", 1), ("label", 1), "return", "drop",
                       ("label", 3))
        self.assert_flow(
            code, [[1], [6], [], [], [], [], [7], [], [], []], [(0, 2), (2, 4), (4, 6), (6, 8), (8, 9), (9, 10)],
            [[3], [], [], [], [], []], [[0], [], [], [0, 3], [], []],
        )

    def test_labels_directly_behind_one_another(self):
        code = code_of(("quick", "a"), ("iftrue", 2), ("label", 1), ("label", 2), ("label", 3), ("push", 1), "return")
        self.assert_flow(
            code, [[1], [2, 3], [3], [4], [5], [6], []], [(0, 2), (2, 3), (3, 4), (4, 7)],
            [[1, 2], [2], [3], []], [[0], [0, 1], [0, 2], [0, 2, 3]],
        )

    def test_a_label_at_place_0(self):
        code = code_of(("label", 4), ("push", 1), "return")
        self.assert_flow(code, [[1], [2], []], [(0, 3)], [[]], [[0]])

    def test_a_last_row_that_ends_a_block(self):
        self.assertEqual(blocks(code_of(("push", 1), "return", "return")), [(0, 2), (2, 3)])

    def test_codes_made_by_chance(self):
        for seed in range(200):
            code = made_code(seed)
            found = states(code)
            goals, pairs, nexts, passed = follows(code), blocks(code), links(code), must(code)
            with self.subTest(seed=seed):
                self.assertEqual([place for first, behind in pairs for place in range(first, behind)], list(range(len(code))))
                for first, behind in pairs:
                    self.assertTrue(first == 0 or code[first][0] == "label" or code[first - 1][0] in ENDS)
                    for place in range(first + 1, behind):
                        self.assertFalse(code[place][0] == "label" or code[place - 1][0] in ENDS)
                numbers = {first: number for number, (first, behind) in enumerate(pairs)}
                for number, (first, behind) in enumerate(pairs):
                    reached = {numbers[goal] for place in range(first, behind) for goal in goals[place] if goal in numbers}
                    self.assertEqual(nexts[number], sorted(reached))
                    self.assertEqual(passed[number] == [], found[first] is None)
                self.assertEqual([bool(places) for places in goals],
                                 [state is not None and (row[0] not in ("return", "raise") or (row[0] == "raise" and state[1] != ()))
                                  for row, state in zip(code, found)])
                self.assertEqual(passed, must_of(nexts))

    def test_refusals(self):
        for ask in (follows, blocks, links, must):
            assert_refuses_codes(self, ask)

    def test_nothing_is_changed_and_all_is_told_alike_again(self):
        for seed in range(20):
            code = made_code(seed)
            kept = copy.deepcopy(code)
            for ask in (follows, blocks, links, must):
                first = ask(code)
                known = copy.deepcopy(first)
                for part in first:
                    if isinstance(part, list):
                        part.append("spoilt")
                first.append("spoilt")
                self.assertEqual(kinds_of(ask(code)), kinds_of(known))
            self.assertEqual(kinds_of(code), kinds_of(kept))


if __name__ == "__main__":
    unittest.main()
