"""Promise 14.1, and of 0.1 to 0.3 what touches it: bonds between codes that tell the same."""

import copy
import itertools
import random
import unittest

from codemill.bonds import binds, bond
from codemill.codes import is_code
from codemill.errors import BadCode, Unsound
from codemill.fold import folded
from codemill.machine import run
from codemill.mill import milled
from codemill.names import quickened
from codemill.prune import pruned
from codemill.sound import states, why
from codemill.swaps import swapped
from codemill.thread import threaded
from tests.helper import (
    JUMP_OPS, NO_CODES, THINGS, UNSOUND, assert_refuses_codes, code_of, every_row, kinds_of, loading_code, made_code, spoilt_code,
    straight_code, with_other_marks,
)

VALUES = (None, True, False, 0, 1, 2, -3, 10 ** 18, -10 ** 18, "Odd", "Unset")
# Names of all kinds, for two names and with a third one.
ALL_NAMES = [{}] + [{"a": value} for value in VALUES] + [{"b": value} for value in VALUES]
ALL_NAMES += [{"a": value, "b": other} for value in VALUES for other in VALUES]
SOME_NAMES = [{}] + [{"a": value, "b": VALUES[at - 3], "cd": VALUES[at - 5]} for at, value in enumerate(VALUES)]
SOME_NAMES += [{"a": 1}, {"b": 0}, {"cd": 3}, {"a": "Kind", "cd": None}, {"a": 5, "b": 3, "cd": 2}]

# Codes with jumps, guards and rounds of all sorts, each of which has a bond to itself.
CODES = (
    code_of(("push", 1), "return"),
    code_of(("load", "a"), "raise"),
    code_of(("label", 0), ("jump", 0)),
    code_of(("label", 0), ("push", 1), "drop", ("jump", 1), ("label", 1), ("jump", 0)),
    code_of(("label", 0), ("quick", "a"), ("iftrue", 0), ("push", 1), "return"),
    code_of(("push", 9), ("store", "a"), ("label", 0), ("quick", "a"), ("push", 1), "sub", ("copy", 1), ("store", "a"), ("iftrue", 0), ("quick", "a"), "return"),
    code_of(("push", 0), ("label", 0), "not", ("copy", 1), ("iftrue", 0), ("label", 1), ("push", 3), "drop", ("jump", 1)),
    code_of(("push", 0), ("label", 0), "not", "not", ("jump", 0)),
    code_of(("load", "a"), ("label", 0), ("copy", 1), "tell", "not", ("jump", 0)),
    code_of(("push", 1), ("try", 1), ("load", "a"), ("try", 2), ("load", "b"), "add", "endtry", "return", ("label", 2), "tell", "endtry", "return", ("label", 1), "return")[:5]
    + code_of(("push", 1), "div", "endtry", "tell", "endtry", "return", ("label", 2), "tell", "tell", "endtry", "return", ("label", 1), "return"),
    code_of(("load", "a"), ("ortrue", 0), ("load", "b"), ("orfalse", 0), ("load", "c"), ("label", 0), "return"),
    code_of(("label", 0), ("try", 1), ("clear", "a"), "endtry", ("push", 1), "return", ("label", 1), ("iftrue", 0), ("jump", 0)),
    code_of(*[row for count in range(30) for row in (("quick", "a"), ("iftrue", count), ("push", count), "tell", ("label", count))][:145], ("push", 1), "return"),
)


def tell_alike(code, other, names):
    """Whether both tell the same and end alike, as far as some steps show it."""
    for steps in (60, 600):
        end, told, many = run(code, names, steps)
        other_end, other_told, other_many = run(other, names, steps)
        if end != ("on",) and other_end != ("on",):
            return kinds_of((end, told)) == kinds_of((other_end, other_told))
        shorter = min(len(told), len(other_told))
        if kinds_of(told[:shorter]) != kinds_of(other_told[:shorter]):
            return False
    # Of two that tell for ever none tells so much less than the other one.
    return end == other_end and shorter >= max(len(told), len(other_told)) // 40


def in_one_line(code):
    return [(op, arg, 7) for op, arg, line in code]


def without_walks(code, seed):
    """The code with rows put in to which no walk comes."""
    chance = random.Random(seed)
    for count in range(chance.randint(1, 6)):
        found = states(code)
        free = [at for at in range(1, len(code)) if found[at] is None or code[at - 1][0] in ("jump", "return", "raise")] + [len(code)]
        marks = [row[1] for row in code if row[0] == "label"]
        rows = [row for row in every_row() if row[0] not in JUMP_OPS + ("label",)]
        rows += [(op, mark, 5) for op in JUMP_OPS for mark in marks]
        rows += [("label", mark, 6) for mark in range(100) if mark not in marks][:5]
        if len(code) < 150:
            at = chance.choice(free)
            code = code[:at] + [chance.choice(rows)] + code[at:]
    return code


def taken_out(code):
    """The code without rows to which no walk comes, but for labels that others need."""
    kept = [row for row, state in zip(code, states(code)) if state is not None or row[0] == "label"]
    return [row for row in kept if row[0] != "label" or any(other[0] in JUMP_OPS and other[1] == row[1] for other in kept)]


class BondsCase(unittest.TestCase):
    def assert_bound(self, code, other):
        """Check that there is a bond, either way round; gives back the first one."""
        for one, another in ((code, other), (other, code)):
            kept = copy.deepcopy((one, another))
            found = bond(one, another)
            self.assertIs(type(found), list, (one, another))
            self.assertIs(binds(one, another, found), True)
            self.assertEqual(kinds_of((one, another)), kinds_of(kept))
            self.assertEqual(kinds_of(bond(one, another)), kinds_of(found))
        return bond(code, other)

    def assert_not_bound(self, code, other, papers=()):
        for one, another in ((code, other), (other, code)):
            self.assertIsNone(bond(one, another), (one, another))
            for paper in [bond(code, code), bond(other, other), *papers, []]:
                self.assertIs(binds(one, another, paper), False, (one, another))


class PromisedTest(BondsCase):
    def test_itself(self):
        for code in CODES:
            self.assertIsNone(why(code), code)
            self.assert_bound(code, list(code))

    def test_itself_by_chance(self):
        for seed in range(150):
            for code in (made_code(seed), loading_code(seed), straight_code(seed)):
                self.assert_bound(code, code)

    def test_itself_of_long_codes(self):
        for seed in range(30):
            code = made_code(seed, 130)
            if len(code) <= 150:
                self.assert_bound(code, code)

    def test_other_marks(self):
        for seed, code in enumerate([*CODES] + [loading_code(seed) for seed in range(100)]):
            other = with_other_marks(code, seed)
            self.assertIsNone(why(other))
            self.assert_bound(code, other)

    def test_rows_to_which_no_walk_comes(self):
        changed = 0
        for seed, code in enumerate([*CODES] * 5 + [made_code(seed) for seed in range(100)]):
            other = without_walks(code, seed)
            self.assertTrue(is_code(other))
            self.assertIsNone(why(other))
            self.assert_bound(code, other)
            self.assert_bound(with_other_marks(other, seed), code)
            fewer = taken_out(other)
            changed += fewer != other
            self.assertTrue(is_code(fewer))
            self.assertIsNone(why(fewer))
            self.assert_bound(other, fewer)
            self.assert_bound(code, fewer)
        self.assertGreater(changed, 100)

    def test_betterings_of_straight_codes(self):
        changed = dict.fromkeys(range(7), 0)
        for seed in range(200):
            code = straight_code(seed)
            self.assertFalse(any(row[0] in JUMP_OPS + ("label", "endtry") for row in code))
            betters = (
                folded(code), swapped(code), pruned(code), milled(code), milled(code, given=()), quickened(code),
                milled(code, fold=seed % 2 == 0, prune=seed % 3 == 0, swaps=seed % 5 < 3, given=()),
            )
            for at, better in enumerate(betters):
                changed[at] += better != code
                self.assert_bound(code, better)
            self.assert_bound(betters[0], betters[4])
        self.assertTrue(all(many > 50 for many in changed.values()), changed)

    def test_betterings_by_hand(self):
        for rows in (
            [("push", 1), ("push", 2), "add", ("load", "a"), "add", "return"],
            [("load", "a"), ("load", "b"), ("swap", 2), ("swap", 2), "sub", "return"],
            [("load", "a"), ("push", 5), "tell", ("load", "a"), "drop", "neg", "return", "tell", "add"],
            [("push", 10 ** 9), ("push", 10 ** 9), "mul", ("push", 2), "mul", "return"],
            [("push", 1), ("store", "a"), ("load", "a"), ("push", 1), "same", "not", "return"],
            [("clear", "a"), ("quick", "a"), "drop", ("push", None), ("copy", 1), "neg", "return"],
            [("push", "Odd"), "raise"],
        ):
            code = code_of(*rows)
            for better in (folded(code), swapped(code), pruned(code), milled(code), milled(code, given=()), quickened(code)):
                self.assert_bound(code, better)


class OtherBetteringsTest(BondsCase):
    """What isn't promised but is found: betterings of codes with jumps and guards."""

    def test_by_hand(self):
        code = code_of(
            ("load", "a"), "not", ("iftrue", 1), ("push", True), ("iftrue", 2), ("label", 1), ("jump", 3), ("label", 3), ("load", "b"), ("ortrue", 4),
            ("jump", 2), ("label", 4), ("ortrue", 5), ("jump", 2), ("label", 5), ("iffalse", 2), ("label", 2), ("push", 7), "return",
        )
        for better in (folded, threaded, pruned, swapped, milled):
            self.assertNotEqual(code, milled(code))
            self.assert_bound(code, better(code))

    def test_by_chance(self):
        found = 0
        for seed in range(80):
            code = loading_code(seed)
            for better in (folded(code), threaded(code), pruned(code), swapped(code), milled(code), milled(code, given=()), quickened(code)):
                paper = bond(code, better)
                found += paper is not None
                self.assertTrue(paper is None or binds(code, better, paper))
        self.assertGreater(found, 500)

    def test_what_tells_the_same_by_hand(self):
        for rows, others in (
            # A guard that nothing needs, or that takes the fault in another line.
            ([("try", 1), ("push", 1), "endtry", "return", ("label", 1), "return"], [("push", 1), "return"]),
            ([("try", 1), ("load", "a"), "return", ("label", 1), "return"], [("push", 1), "drop", ("try", 1), ("load", "a"), "return", ("label", 1), "return"]),
            # A name that was cleared has no value, one that was stored has that very one.
            ([("clear", "a"), ("quick", "a"), "return"], [("clear", "a"), ("push", None), "return"]),
            ([("push", 1), ("store", "a"), ("load", "a"), "return"], [("push", 1), ("store", "a"), ("push", 1), "return"]),
            ([("load", "a"), ("quick", "a"), "add", "return"], [("load", "a"), ("copy", 1), "add", "return"]),
            # What is read in any order, where nothing of it can be seen.
            ([("quick", "a"), ("quick", "b"), "same", "return"], [("quick", "b"), ("quick", "a"), ("swap", 2), "same", "return"]),
            # A choice that is known, or that makes no odds.
            ([("quick", "a"), ("iftrue", 1), ("label", 1), ("push", 1), "return"], [("push", 1), "return"]),
            ([("quick", "a"), "not", "not", ("iftrue", 1), ("push", 1), "return", ("label", 1), ("push", 2), "return"],
             [("quick", "a"), "not", ("iffalse", 1), ("push", 1), "return", ("label", 1), ("push", 2), "return"]),
            # Rounds that are gone through twice at once.
            ([("label", 1), ("push", 1), "tell", ("jump", 1)], [("label", 1), ("push", 1), "tell", ("push", 1), "tell", ("jump", 1)]),
            ([("label", 1), ("jump", 1)], [("push", 1), "drop", ("label", 1), ("label", 2), ("push", 1), "drop", ("jump", 2)]),
        ):
            code, other = code_of(*rows), code_of(*others)
            self.assertTrue(all(tell_alike(code, other, names) for names in SOME_NAMES), (code, other))
            self.assert_bound(code, other)

    def test_names_that_are_given_make_no_bond(self):
        code = code_of(("load", "a"), "return")
        self.assert_not_bound(code, quickened(code, given=("a",)))
        self.assert_not_bound(code, milled(code, given=("a",)))


class OtherThingsTest(BondsCase):
    def assert_no_bond(self, code, other, thing):
        kept = copy.deepcopy(thing)
        self.assertIs(binds(code, other, thing), False, (code, other, thing))
        self.assertEqual(kinds_of(thing), kinds_of(kept))

    def test_any_things(self):
        for code in CODES:
            for thing in THINGS + (True, [[]], [()], tuple(bond(code, code)), {"a": bond(code, code)}, [bond(code, code)], code, states(code)):
                self.assert_no_bond(code, code, thing)

    def test_spoilt_lists(self):
        for code in (*CODES[:-1], *[made_code(seed, 25) for seed in range(6)]):
            paper = bond(code, code)
            for at in range(len(paper)):
                self.assert_no_bond(code, code, paper[:at])
                self.assert_no_bond(code, code, paper[:at] + paper[at + 1:])
                self.assert_no_bond(code, code, paper[:at] + [paper[at]] + paper[at:])
                first, second = paper[at]
                for entry in (
                    None, True, 0, "", [], (), {}, [first, second], (first,), (first, second, 0), (first, None), (None, second), (first, (second,)), (first, str(second)),
                    (first + 1, second), (first, second + 1), (first - 1, second), (first, second - 1), (-1, -1), (999, 999), (first, 999), (first + 1, second + 1),
                    (bool(first), second) if first in (0, 1) else None, (first, bool(second)) if second in (0, 1) else None,
                ):
                    self.assert_no_bond(code, code, paper[:at] + [entry] + paper[at + 1:])
                    self.assert_no_bond(code, code, paper[:at] + [entry] + paper[at:])
            for entry in (None, (0, 0), (len(code), len(code)), (1, 0), ()):
                self.assert_no_bond(code, code, paper + [entry])
            if len(paper) > 1:
                self.assert_no_bond(code, code, paper[::-1])

    def test_bonds_of_other_codes(self):
        papers = [bond(code, code) for code in CODES]
        for code, other in itertools.permutations(CODES, 2):
            if not all(tell_alike(code, other, names) for names in SOME_NAMES):
                self.assertIsNone(bond(code, other))
                for paper in papers:
                    self.assert_no_bond(code, other, paper)

    def test_told_anew(self):
        for code in CODES:
            paper = bond(code, code)
            kept = list(paper)
            paper.append("spoilt")
            paper[0] = "spoilt"
            self.assertEqual(bond(code, code), kept)


class LetByTest(BondsCase):
    """Wherever a thing is let by, both codes tell the same, whatever the names are."""

    def assert_fits(self, code, other, names=SOME_NAMES):
        """Check that a bond is there only if both codes tell the same; tells whether it is there."""
        paper = bond(code, other)
        alike = all(tell_alike(code, other, each) for each in names)
        if paper is not None:
            self.assertTrue(alike, (code, other))
            self.assertIs(binds(code, other, paper), True)
        if not alike:
            for thing in (bond(code, code), bond(other, other)):
                self.assertIs(binds(code, other, thing), False, (code, other))
        return paper is not None

    def test_one_row_changed(self):
        for code in (*CODES[:-1], *[loading_code(seed, 25) for seed in range(12)]):
            for at, (op, arg, line) in enumerate(code):
                rows = [(op, arg, line + 1)]
                rows += [("push", value, line) for value in (0, 1, True, None, "Odd")] if op == "push" else []
                rows += [(op, "b", line), (op, "zz", line), ("quick", arg, line), ("load", arg, line)] if op in ("load", "quick") else []
                rows += [(op, "b", line), (op, "zz", line)] if op in ("store", "clear") else []
                rows += [(other, None, line) for other in ("add", "sub", "mul", "less", "same", "div")] if op in ("add", "sub", "div", "same") else []
                rows += [("neg", None, line), ("not", None, line)] if op in ("neg", "not") else []
                rows += [("drop", None, line), ("tell", None, line)] if op in ("drop", "tell") else []
                rows += [("iftrue", arg, line), ("iffalse", arg, line)] if op in ("iftrue", "iffalse") else []
                rows += [("ortrue", arg, line), ("orfalse", arg, line)] if op in ("ortrue", "orfalse") else []
                rows += [("return", None, line), ("raise", None, line)] if op in ("return", "raise") else []
                for row in rows:
                    other = code[:at] + [row] + code[at + 1:]
                    if is_code(other) and why(other) is None:
                        self.assert_fits(code, other, SOME_NAMES[::2])

    def test_codes_that_tell_otherwise(self):
        for rows, others in (
            ([("push", 1), "return"], [("push", 2), "return"]),
            ([("push", 1), "return"], [("push", True), "return"]),
            ([("push", 0), "return"], [("push", False), "return"]),
            ([("push", 1), "tell", ("push", 1), "return"], [("push", 1), "return"]),
            ([("push", "Odd"), "return"], [("push", "Odd"), "raise"]),
            ([("load", "a"), "return"], [("quick", "a"), "return"]),
            ([("load", "a"), "return"], [("load", "b"), "return"]),
            ([("load", "a"), "drop", ("push", 1), "return"], [("load", "b"), "drop", ("push", 1), "return"]),
            ([("clear", "a"), ("push", 1), "return"], [("clear", "b"), ("push", 1), "return"]),
            ([("clear", "a"), ("push", 1), "return"], [("push", 5), ("store", "a"), ("clear", "a"), ("push", 1), "return"]),
            ([("quick", "a"), ("store", "a"), ("clear", "a"), ("push", 1), "return"], [("clear", "a"), ("push", 1), "return"]),
            ([("push", 1), ("store", "a"), ("quick", "a"), "return"], [("quick", "a"), ("push", 1), ("store", "a"), "return"]),
            ([("push", 1), ("store", "a"), ("quick", "a"), "return"], [("push", 1), ("store", "a"), ("push", None), "return"]),
            ([("push", 1), ("store", "a"), ("quick", "b"), "return"], [("push", 1), ("store", "a"), ("quick", "a"), "return"]),
            ([("quick", "a"), ("quick", "b"), "same", "return"], [("push", True), "return"]),
            ([("quick", "a"), ("push", None), "same", "return"], [("push", True), "return"]),
            ([("push", None), ("quick", "a"), "same", "return"], [("push", True), "return"]),
            ([("quick", "a"), ("quick", "b"), "same", "return"], [("push", False), "return"]),
            ([("quick", "a"), ("quick", "b"), "same", "return"], [("quick", "a"), ("quick", "a"), "same", "return"]),
            ([("quick", "a"), ("push", 1), "same", "return"], [("quick", "a"), ("push", True), "same", "return"]),
            ([("quick", "a"), "not", "return"], [("push", True), "return"]),
            ([("push", 1), ("push", 0), "div", "return"], [("push", None), "return"]),
            ([("push", "Odd"), "neg", "return"], [("push", None), "return"]),
            ([("push", "Odd"), ("push", 1), "less", "return"], [("push", None), "return"]),
            ([("quick", "a"), ("store", "a"), ("load", "a"), "return"], [("load", "a"), "return"]),
            ([("load", "a"), ("load", "b"), "div", "return"], [("load", "b"), ("load", "a"), "div", "return"]),
            ([("load", "a"), ("load", "b"), "sub", "return"], [("load", "a"), ("load", "b"), ("swap", 2), "sub", "return"]),
            ([("load", "a"), ("push", 0), "add", "return"], [("load", "a"), "return"]),
            ([("load", "a"), "not", "not", "return"], [("load", "a"), "return"]),
            ([("label", 0), ("jump", 0)], [("push", 1), "return"]),
            ([("label", 0), ("quick", "a"), ("iftrue", 0), ("push", 1), "return"], [("push", 1), "return"]),
            ([("label", 0), ("quick", "a"), ("iftrue", 0), ("push", 1), "return"], [("quick", "a"), "drop", ("push", 1), "return"]),
            ([("label", 0), ("push", 1), "tell", ("jump", 0)], [("label", 0), ("jump", 0)]),
            ([("label", 0), ("push", 1), "tell", ("jump", 0)], [("push", 1), "tell", ("label", 0), ("jump", 0)]),
            ([("clear", "a"), ("quick", "a"), "return"], [("clear", "a"), ("push", 0), "return"]),
            ([("clear", "a"), ("push", 1), "return"], [("push", None), ("store", "a"), ("push", 1), "return"]),
            ([("clear", "a"), ("load", "a"), "return"], [("clear", "a"), ("push", None), "return"]),
            ([("try", 0), ("load", "a"), "return", ("label", 0), "return"], [("load", "a"), "return"]),
            ([("try", 0), ("load", "a"), "return", ("label", 0), "return"], [("try", 0), ("load", "a"), "return", ("label", 0), ("push", 1), "return"]),
            ([("push", 1), ("try", 0), ("push", 2), ("load", "a"), "return", ("label", 0), "drop", "return"],
             [("push", 1), ("push", 2), ("try", 0), ("load", "a"), "return", ("label", 0), "drop", "return"]),
            ([("load", "a"), ("iftrue", 0), ("push", 1), "return", ("label", 0), ("push", 2), "return"],
             [("load", "a"), ("iffalse", 0), ("push", 1), "return", ("label", 0), ("push", 2), "return"]),
            ([("load", "a"), ("ortrue", 0), ("push", 1), ("label", 0), "return"], [("load", "a"), ("orfalse", 0), ("push", 1), ("label", 0), "return"]),
        ):
            # All rows stand in one line, so that it is not by the line of a fault that they differ.
            code, other = in_one_line(code_of(*rows)), in_one_line(code_of(*others))
            self.assertFalse(all(tell_alike(code, other, names) for names in ALL_NAMES), (code, other))
            self.assert_not_bound(code, other, [bond(each, each) for each in CODES])

    def test_no_list_at_all_is_let_by(self):
        for rows, others in (
            ([("push", 1), "return"], [("push", 2), "return"]), ([("load", "a"), "return"], [("quick", "a"), "return"]),
            ([("label", 0), ("jump", 0)], [("push", 1), "return"]), ([("load", "a"), "return"], [("load", "a"), "raise"]),
            ([("label", 0), ("quick", "a"), ("iftrue", 0), ("push", 1), "return"], [("push", 1), "return"]),
        ):
            code, other = code_of(*rows), code_of(*others)
            pairs = list(itertools.product(range(len(code)), range(len(other))))
            for many in range(4):
                for thing in itertools.permutations(pairs, many):
                    self.assertIs(binds(code, other, list(thing)), False, (code, other, thing))

    def test_lines(self):
        code = code_of(("load", "a"), ("push", 1), "add", "tell", ("push", 3), "return")
        for at in (0, 2):
            self.assert_not_bound(code, code[:at] + [(*code[at][:2], 7)] + code[at + 1:])
        for at in (1, 3, 4, 5):
            self.assert_bound(code, code[:at] + [(*code[at][:2], 7)] + code[at + 1:])

    def test_spoilt_codes(self):
        bound = 0
        for seed in range(500):
            code, other = made_code(seed, 30), spoilt_code(seed)
            if is_code(other) and why(other) is None:
                bound += self.assert_fits(code, other)
        self.assertGreater(bound, 20)

    def test_small_codes_by_chance(self):
        bound = 0
        for seed in range(40):
            for code, other in small_pairs(seed):
                bound += self.assert_fits(code, other, ALL_NAMES)
        self.assertGreater(bound, 100)


SMALL_ROWS = [("push", value) for value in (None, True, 0, 1, "Unset")] + [("copy", 1), ("swap", 2), ("swap", 2)]
SMALL_ROWS += [(op, name) for op in ("load", "quick", "store", "clear") for name in "ab"] * 2
SMALL_ROWS += [(op, None) for op in ("add", "div", "same", "neg", "not", "drop", "tell", "tell", "return", "raise", "endtry")]
SMALL_ROWS += [(op, mark) for op in JUMP_OPS + ("label", "label", "label") for mark in (0, 1)]


def small_code(chance, rows):
    return [(*row, chance.choice((1, 2))) for row in rows]


def small_pairs(seed):
    """Pairs of small sound codes, the second one made of the first by a few changes."""
    chance = random.Random(seed)
    code = []
    while not is_code(code) or why(code) is not None:
        code = small_code(chance, [chance.choice(SMALL_ROWS) for count in range(chance.randint(2, 8))] + [("return", None)])
    for count in range(30):
        other = list(code)
        for change in range(chance.randint(1, 3)):
            at = chance.randrange(len(other))
            other[at:at + chance.randint(0, 1)] = small_code(chance, [chance.choice(SMALL_ROWS) for row in range(chance.randint(0, 2))])
            other = other or list(code)
        if is_code(other) and why(other) is None:
            yield code, other


class RefusalsTest(unittest.TestCase):
    def test_codes(self):
        code = code_of(("push", 1), "return")
        for ask in (
            lambda thing: bond(thing, code), lambda thing: bond(code, thing), lambda thing: bond(thing, thing), lambda thing: binds(thing, code, []),
            lambda thing: binds(code, thing, None), lambda thing: binds(thing, thing, [(0, 0)]),
        ):
            assert_refuses_codes(self, ask)

    def test_bad_codes_ahead_of_unsound_ones(self):
        for thing in NO_CODES:
            for unsound in UNSOUND.values():
                for ask in (bond, lambda one, other: binds(one, other, [])):
                    with self.assertRaises(BadCode):
                        ask(thing, unsound)
                    with self.assertRaises(BadCode):
                        ask(unsound, thing)
                    with self.assertRaises(Unsound):
                        ask(unsound, unsound)
        bad, worse = [("push", 1, 1), ("jump", 3, 1)], [("add", 1, 1)]
        for ask in (bond, lambda one, other: binds(one, other, [])):
            for one, other, at in ((bad, worse, 1), (worse, bad, 0)):
                with self.assertRaises(BadCode) as raised:
                    ask(one, other)
                self.assertEqual(raised.exception.at, at)


if __name__ == "__main__":
    unittest.main()
