"""Promises 11.1, 11.2 and 11.3, and of 0.1 to 0.3 what touches them: codes put into units, and units by themselves."""

import copy
import itertools
import unittest

from codemill.errors import BadUnits
from codemill.sound import states, why
from codemill.texts import code_text, read_code
from codemill.units import Units, assembled, guard_at, line_at, listing
from tests.helper import (
    JUMP_OPS, NAME_OPS, PUSHED, THINGS, assert_refuses_codes, code_of, kinds_of, loading_code, made_code, parts_of,
    with_other_marks,
)

# As the document numbers them.
NUMBERS = {
    "more": 0, "push": 1, "load": 2, "quick": 3, "store": 4, "clear": 5, "drop": 6, "copy": 7, "swap": 8, "add": 9, "sub": 10,
    "mul": 11, "div": 12, "rest": 13, "less": 14, "same": 15, "neg": 16, "not": 17, "tell": 18, "jump": 19, "iftrue": 20,
    "iffalse": 21, "ortrue": 22, "orfalse": 23, "return": 24, "raise": 25,
}
NO_UNITS = ("label", "try", "endtry")
JUMPS = ("jump", "iftrue", "iffalse", "ortrue", "orfalse")
# A row of one unit that takes no value.
CLEAR = ("clear", "a")


def once(things):
    """The things, each kind of thing once, as they come."""
    found = []
    for thing in things:
        if kinds_of(thing) not in [kinds_of(other) for other in found]:
            found.append(thing)
    return found


def goals_by(code, sizes):
    """The first unit behind each label, where the rows have so many units."""
    return {row[1]: sum(sizes[:place]) for place, row in enumerate(code) if row[0] == "label"}


def numbers_by(code, goals):
    """The number of each row."""
    consts = [kinds_of(const) for const in once([row[1] for row in code if row[0] == "push"])]
    names = once([row[1] for row in code if row[0] in NAME_OPS])
    found = []
    for op, arg, line in code:
        if op == "push":
            found.append(consts.index(kinds_of(arg)))
        elif op in NAME_OPS:
            found.append(names.index(arg))
        else:
            found.append(goals[arg] if op in JUMPS else arg or 0)
    return found


def digits_by(number):
    """The digits of the number by the base of 16, as few as can be."""
    return [int(figure, 16) for figure in f"{number:x}"]


def fewest_by_search(code):
    """The sizes of all rows, the fewest of all that fit, by going through all sizes of the jumps."""
    numbers = numbers_by(code, dict.fromkeys(range(100), 0))
    plain = [0 if row[0] in NO_UNITS else len(digits_by(number)) for row, number in zip(code, numbers)]
    jumps = [place for place, row in enumerate(code) if row[0] in JUMPS]
    found = []
    for chosen in itertools.product((1, 2, 3), repeat=len(jumps)):
        sizes = list(plain)
        for place, size in zip(jumps, chosen):
            sizes[place] = size
        goals = goals_by(code, sizes)
        if all(len(digits_by(goals[code[place][1]])) <= sizes[place] for place in jumps):
            found.append(sizes)
    best = min(found, key=sum)
    # None of those that fit has fewer units in any row.
    assert all(size <= other for sizes in found for size, other in zip(best, sizes))
    return best


def units_by(code, sizes):
    """The units of the code, where the rows have so many."""
    found = []
    for row, number, size in zip(code, numbers_by(code, goals_by(code, sizes)), sizes):
        if size:
            digits = digits_by(number)
            digits = [0] * (size - len(digits)) + digits
            found += [(0, digit) for digit in digits[:-1]] + [(NUMBERS[row[0]], digits[-1])]
    return tuple(found)


def sizes_of(code, units):
    """How many units each row of the code has among these."""
    sizes, rest = [], list(units)
    for row in code:
        size = 0
        if row[0] not in NO_UNITS:
            while rest[size][0] == 0:
                size += 1
            size += 1
        sizes.append(size)
        rest = rest[size:]
    assert not rest
    return sizes


def tables_by(code, sizes):
    """The table of guards and that of lines, unit by unit."""
    goals, guards, lines = goals_by(code, sizes), [], []
    for row, state, size in zip(code, states(code), sizes):
        guard = state[1][-1] if state is not None and state[1] else None
        guards += [guard] * size
        lines += [row[2]] * size
    table = [(len(list(group)), guard) for guard, group in itertools.groupby(guards)]
    entries, at = [], 0
    for many, guard in table:
        if guard is not None:
            entries.append((at, at + many, goals[guard[0]], guard[1]))
        at += many
    return tuple(entries), tuple((len(list(group)), line) for line, group in itertools.groupby(lines))


def rows_by(code, sizes):
    """The listing: first unit, op, arg and line of each row that has units."""
    goals = goals_by(code, sizes)
    return [
        (sum(sizes[:place]), op, goals[arg] if op in JUMPS else arg, line)
        for place, (op, arg, line) in enumerate(code) if op not in NO_UNITS
    ]


class UnitsCase(unittest.TestCase):
    def assert_units(self, code, sizes=None):
        """Check all of the units of the code; gives them back."""
        kept = copy.deepcopy(code)
        units = assembled(code)
        self.assertEqual(kinds_of(code), kinds_of(kept))
        self.assertIs(type(units), Units)
        if sizes is None:
            sizes = sizes_of(code, units.units())
        self.assertEqual(kinds_of(units.consts()), kinds_of(tuple(once([row[1] for row in code if row[0] == "push"]))))
        self.assertEqual(kinds_of(units.names()), kinds_of(tuple(once([row[1] for row in code if row[0] in NAME_OPS]))))
        self.assertEqual(kinds_of(units.units()), kinds_of(units_by(code, sizes)))
        table, lines = tables_by(code, sizes)
        self.assertEqual(kinds_of(units.table()), kinds_of(table))
        self.assertEqual(kinds_of(units.lines()), kinds_of(lines))
        self.assertEqual(len(units), len(units.units()))
        rows = rows_by(code, sizes)
        self.assertEqual(kinds_of(listing(units)), kinds_of(rows))
        line_of = [row[2] for row, size in zip(code, sizes) for count in range(size)]
        for at in range(len(units)):
            self.assertEqual(kinds_of(line_at(units, at)), kinds_of(line_of[at]))
            entries = [(goal, depth) for begin, end, goal, depth in table if begin <= at < end]
            self.assertEqual(kinds_of(guard_at(units, at)), kinds_of(entries[0] if entries else None))
        self.assertEqual(Units(*parts_of(units)), units)
        return units


class AssembledTest(UnitsCase):
    def test_the_numbers_of_the_ops(self):
        for number, op in enumerate(NUMBERS):
            self.assertEqual(NUMBERS[op], number)
            if op == "more" or op in JUMPS:
                continue
            arg = {"push": 5, "copy": 1, "swap": 2}.get(op, "a" if op in NAME_OPS else None)
            code = code_of(("push", 5), "return", (op, arg))
            digit = arg if op in ("copy", "swap") else 0
            self.assertEqual(self.assert_units(code).units(), ((1, 0), (24, 0), (number, digit)))
        for op in JUMPS:
            code = code_of(("push", 5), "return", (op, 3), ("label", 3), "raise")
            self.assertEqual(self.assert_units(code).units(), ((1, 0), (24, 0), (NUMBERS[op], 3), (25, 0)))

    def test_constants(self):
        values = [1, True, 0, False, None, "a", "A", 1, True, -1, "a", None, 0, False]
        code = code_of(*[("push", value) for value in values], "return")
        units = self.assert_units(code)
        self.assertEqual(kinds_of(units.consts()), kinds_of((1, True, 0, False, None, "a", "A", -1)))
        self.assertEqual([digit for op, digit in units.units()[:-1]], [0, 1, 2, 3, 4, 5, 6, 0, 1, 7, 5, 4, 2, 3])
        values.reverse()
        self.assert_units(code_of(*[("push", value) for value in values], "return"))
        self.assert_units(code_of(*[("push", value) for value in PUSHED], "return"))

    def test_constants_and_names_of_rows_to_which_no_walk_comes(self):
        units = self.assert_units(code_of(("push", 5), "return", ("push", 6), ("store", "b"), ("load", "a")))
        self.assertEqual((units.consts(), units.names()), ((5, 6), ("b", "a")))

    def test_names(self):
        rows = [("quick", "b"), ("store", "a"), ("load", "b"), ("clear", "cccc"), ("quick", "a"), "return"]
        units = self.assert_units(code_of(*rows))
        self.assertEqual(units.names(), ("b", "a", "cccc"))
        self.assertEqual(units.units(), ((3, 0), (4, 1), (2, 0), (5, 2), (3, 1), (24, 0)))

    def test_no_names_and_no_constants(self):
        units = self.assert_units(code_of(("load", "a"), "return"))
        self.assertEqual((units.consts(), units.names(), units.table()), ((), ("a",), ()))
        units = self.assert_units(code_of(("label", 5), ("jump", 5)))
        self.assertEqual((units.consts(), units.names(), units.units()), ((), (), ((19, 0),)))

    def test_rows_that_make_no_units(self):
        rows = [("label", 1), ("try", 2), ("load", "a"), "endtry", "return", ("label", 2), "return"]
        self.assertEqual(self.assert_units(code_of(*rows)).units(), ((2, 0), (24, 0), (24, 0)))

    def test_jumps_over_labels_tries_and_endtries(self):
        rows = [("jump", 1), "tell", ("label", 1), ("label", 2), ("try", 3), "endtry", ("label", 4), ("try", 3), ("load", "a"), "return",
                ("label", 3), "return"]
        units = self.assert_units(code_of(*rows))
        self.assertEqual(units.units(), ((19, 2), (18, 0), (2, 0), (24, 0), (24, 0)))
        self.assertEqual(units.table(), ((2, 4, 4, 0),))

    def test_a_label_with_nothing_behind(self):
        units = self.assert_units(code_of(("push", 1), "return", ("jump", 1), ("label", 1)))
        self.assertEqual(units.units(), ((1, 0), (24, 0), (19, 3)))
        units = self.assert_units(code_of(("try", 1), ("push", 1), "return", ("label", 1)))
        self.assertEqual(units.table(), ((0, 2, 2, 0),))

    def test_numbers_of_two_digits(self):
        for many in (15, 16, 17, 18, 33, 100):
            code = code_of(*[("push", value) for value in range(many)], "return")
            units = self.assert_units(code)
            self.assertEqual(len(units), many + 1 + max(0, many - 16))
            self.assertEqual(units.units()[-2], (1, (many - 1) % 16))
            if many > 16:
                self.assertEqual(units.units()[-3], (0, (many - 1) // 16))
        names = [chr(97 + at // 26) + chr(97 + at % 26) for at in range(40)]
        code = code_of(*[("load", name) for name in names], "return")
        self.assertEqual(self.assert_units(code).units()[16:18], ((0, 1), (2, 0)))

    def test_every_row(self):
        for op in NAME_OPS + ("copy", "swap", "push"):
            for arg in ("ab",) if op in NAME_OPS else range(2, 10):
                self.assert_units(code_of(("push", 1), "return", (op, arg)))


class SizesTest(UnitsCase):
    def assert_fewest(self, *rows):
        """Check the sizes of the code against all that fit; gives back those of its jumps."""
        code = code_of(*rows)
        sizes = fewest_by_search(code)
        self.assert_units(code, sizes)
        return [size for row, size in zip(code, sizes) if row[0] in JUMPS]

    def test_one_jump_about_16(self):
        for many, size in ((12, 1), (13, 1), (14, 1), (15, 2), (16, 2), (20, 2)):
            self.assertEqual(self.assert_fewest(("jump", 1), *["tell"] * many, ("label", 1), ("push", 1), "return"), [size], many)
        for many, size in ((13, 1), (14, 1), (15, 1), (16, 2), (17, 2)):
            rows = [("push", 1), "return", *["tell"] * (many - 2), ("label", 1), "tell", ("jump", 1)]
            self.assertEqual(self.assert_fewest(*rows), [size], many)

    def test_jumps_that_hang_on_one_another(self):
        # Each jump lies ahead of all goals, so as soon as one needs a digit more, all goals lie further away.
        for many in range(6, 20):
            rows = [("jump", 1), ("jump", 2), ("jump", 3), ("jump", 4), *["tell"] * many, ("label", 1), CLEAR, ("label", 2), CLEAR,
                    ("label", 3), CLEAR, ("label", 4), ("push", 1), "return"]
            sizes = self.assert_fewest(*rows)
            self.assertEqual(sizes, sorted(sizes))
        rows = [("jump", 1), ("jump", 2), ("jump", 3), *["tell"] * 10, ("label", 1), CLEAR, ("label", 2), CLEAR, ("label", 3), ("push", 1), "return"]
        # 13, 14 and 15 fit; with a row more the last one doesn't, and then none of those that were just short of it.
        self.assertEqual(self.assert_fewest(*rows), [1, 1, 1])
        self.assertEqual(self.assert_fewest(*rows[:3], "tell", *rows[3:]), [2, 2, 2])
        self.assertEqual(self.assert_fewest(*rows[:3], *rows[4:]), [1, 1, 1])

    def test_jumps_that_all_may_have_more_but_need_not(self):
        # If all had two units all of them would need these; but one is enough for each.
        rows = [*[("jump", 1)] * 6, *["tell"] * 9, ("label", 1), ("push", 1), "return"]
        self.assertEqual(self.assert_fewest(*rows), [1] * 6)
        self.assertEqual(self.assert_fewest(*rows[:6], "tell", *rows[6:]), [2] * 6)

    def test_jumps_both_ways(self):
        for many in range(8, 18):
            rows = [("label", 5), ("jump", 1), ("label", 6), *["tell"] * many, ("jump", 2), ("label", 1), ("jump", 5), ("label", 2), "tell", ("jump", 6)]
            self.assert_fewest(*rows)

    def test_conditional_jumps(self):
        for op in ("iftrue", "iffalse", "ortrue", "orfalse"):
            for many in range(11, 17):
                self.assert_fewest(("load", "a"), (op, 1), ("jump", 2), *["tell"] * many, ("label", 1), ("push", 1), "return", ("label", 2), ("push", 1), "return")

    def test_jumps_about_256(self):
        # The first 16 constants take one unit, the others two.
        pushes = [("push", value) for value in range(138)]
        sizes = []
        for pushed, told in ((134, 0), (134, 1), (134, 2), (134, 3), (135, 0), (135, 1), (135, 2), (135, 3), (136, 0), (137, 0), (138, 4)):
            rows = [("jump", 1), *pushes[:pushed], *["tell"] * told, ("label", 1), ("push", 1), "return"]
            sizes += self.assert_fewest(*rows)
            self.assert_fewest(("jump", 1), ("jump", 2), *pushes[:pushed], *["tell"] * told, ("label", 1), CLEAR, ("label", 2), ("push", 1), "return")
        self.assertEqual(sorted(set(sizes)), [2, 3])
        # 256 units at first, but only 255 ahead of the goal.
        rows = [("jump", 1), *pushes[:134], "tell", ("label", 1), ("push", 1), "return"]
        self.assertEqual(self.assert_fewest(*rows), [2])
        self.assertEqual(self.assert_fewest(*rows[:-3], "tell", *rows[-3:]), [3])

    def test_codes_made_by_chance(self):
        searched = 0
        for seed in range(150):
            code = loading_code(seed, 30)
            jumps = sum(row[0] in JUMPS for row in code)
            if jumps <= 6:
                searched += jumps > 1
                self.assert_units(code, fewest_by_search(code))
            else:
                self.assert_units(code)
        self.assertGreater(searched, 30)

    def test_long_codes_made_by_chance(self):
        for seed in range(80):
            code = made_code(seed, 120)
            if len(code) <= 150:
                units = self.assert_units(code)
                # Where a goal lies never asks for a nought ahead.
                ahead = [other for other, unit in zip(((1, 0),) + units.units(), units.units()) if other[0] != 0 and unit == (0, 0)]
                self.assertEqual(ahead, [])


class TablesTest(UnitsCase):
    def assert_table(self, rows, table):
        self.assertEqual(self.assert_units(code_of(*rows)).table(), table)

    def test_guards_within_guards(self):
        rows = [("try", 1), ("load", "a"), ("try", 2), ("load", "b"), "neg", "endtry", "tell", "tell", ("push", 1), "return",
                ("label", 2), "tell", "return", ("label", 1), "return"]
        self.assert_table(rows, ((0, 1, 9, 0), (1, 3, 7, 1), (3, 9, 9, 0)))

    def test_stretches_that_lie_apart(self):
        rows = [("try", 1), ("load", "a"), "endtry", "tell", ("try", 1), ("load", "b"), "endtry", "return", ("label", 1), "return"]
        self.assert_table(rows, ((0, 1, 4, 0), (2, 3, 4, 0)))

    def test_stretches_that_touch_with_the_same_guard(self):
        rows = [("try", 1), ("load", "a"), "tell", "endtry", ("try", 1), ("load", "b"), "endtry", "return", ("label", 1), "return"]
        self.assert_table(rows, ((0, 3, 4, 0),))

    def test_stretches_that_touch_with_another_guard(self):
        rows = [("try", 1), ("load", "a"), "tell", "endtry", ("try", 2), ("load", "b"), "endtry", "return", ("label", 1), "return", ("label", 2), "return"]
        self.assert_table(rows, ((0, 2, 4, 0), (2, 3, 5, 0)))
        # Another depth makes another guard, too.
        rows = [("try", 1), ("push", 5), ("load", "a"), "add", "return", ("label", 1), "return"]
        self.assert_table(rows, ((0, 4, 4, 0),))
        # The marks make the guards, though their labels stand at one place.
        rows = [("try", 1), ("load", "a"), "tell", "endtry", ("try", 2), ("load", "b"), "endtry", "return", ("label", 1), ("label", 2), "return"]
        self.assert_table(rows, ((0, 2, 4, 0), (2, 3, 4, 0)))

    def test_depths(self):
        rows = [("push", 1), ("push", 2), ("try", 1), ("load", "a"), "return", ("label", 1), "return"]
        self.assert_table(rows, ((2, 4, 4, 2),))

    def test_rows_to_which_no_walk_comes(self):
        rows = [("try", 1), ("load", "a"), ("jump", 2), "tell", ("label", 2), "return", "add", ("label", 1), "return", "tell"]
        self.assert_table(rows, ((0, 2, 5, 0), (3, 4, 5, 0)))

    def test_rows_of_several_units(self):
        pushes = [("push", value) for value in range(18)]
        rows = [*pushes[:17], ("try", 1), *pushes[15:], "return", ("label", 1), "return"]
        self.assert_table(rows, ((18, 24, 24, 17),))

    def test_lines(self):
        code = [("push", 1, 7), ("push", 2, 7), ("label", 1, 9), ("add", None, 7), ("tell", None, 0), ("push", 3, 9999), ("return", None, 7)]
        self.assertEqual(self.assert_units(code).lines(), ((3, 7), (1, 0), (1, 9999), (1, 7)))
        code = [("push", value, 3 if value < 16 else 4) for value in range(18)] + [("return", None, 4), ("tell", None, 4)]
        self.assertEqual(self.assert_units(code).lines(), ((16, 3), (6, 4)))

    def test_codes_made_by_chance(self):
        many = 0
        for seed in range(150):
            many += len(self.assert_units(loading_code(seed)).table())
        self.assertGreater(many, 100)


GOOD = ((1, None, "Abc"), ("a", "bc"), ((0, 1), (1, 2), (24, 0), (2, 15)), ((0, 1, 4, 0), (1, 3, 0, 999)), ((3, 9999), (1, 0)))


class PartsTest(unittest.TestCase):
    def with_part(self, at, part):
        return [*GOOD[:at], part, *GOOD[at + 1:]]

    def assert_good(self, *parts):
        kept = copy.deepcopy(parts)
        units = Units(*parts)
        for told, part in zip(parts_of(units), kept):
            self.assertEqual(kinds_of(told), kinds_of(part))
        self.assertEqual(kinds_of(parts), kinds_of(kept))
        self.assertEqual(len(units), len(parts[2]))
        return units

    def assert_bad(self, at, part):
        kept = copy.deepcopy(part)
        with self.subTest(at=at, part=part), self.assertRaises(BadUnits):
            Units(*self.with_part(at, part))
        self.assertEqual(kinds_of(part), kinds_of(kept))

    def test_good_parts(self):
        self.assert_good(*GOOD)
        self.assert_good((), (), (), (), ())
        self.assert_good((1, 1, True), ("a", "a"), ((25, 0),), (), ((1, 5),))

    def test_any_things(self):
        for at in range(5):
            for thing in THINGS:
                if thing != () and not (at == 0 and thing in ((None,), (1, 2, 3), ("add", None, 1))):
                    self.assert_bad(at, thing)

    def test_lists_in_the_place_of_tuples(self):
        for at in range(5):
            self.assert_bad(at, list(GOOD[at]))
            if at > 1:
                self.assert_bad(at, tuple(list(entry) for entry in GOOD[at]))
                self.assert_bad(at, (list(GOOD[at][0]), *GOOD[at][1:]))

    def test_constants(self):
        for value in PUSHED:
            self.assert_good(*self.with_part(0, (value,)))
        for value in (10 ** 9 + 1, -10 ** 9 - 1, "", "abcdefghi", "a1", "\u00e9", [], (), {}, (1,), [1]):
            self.assert_bad(0, (value,))
            self.assert_bad(0, (1, value, None))

    def test_names(self):
        for name in ("a", "z", "abcd"):
            self.assert_good(*self.with_part(1, (name, "b")))
        for name in ("", "A", "abcde", "a1", "a ", "\u00e9", None, True, 1, [], ("a",), {}):
            self.assert_bad(1, (name,))
            self.assert_bad(1, ("a", name))

    def test_units(self):
        for unit in ((0, 0), (25, 15), (25, 0), (0, 15)):
            self.assert_good(*self.with_part(2, (unit, *GOOD[2][1:])))
        for unit in (
            (-1, 0), (26, 0), (0, -1), (0, 16), (True, 0), (0, True), (False, 0), (1, False), (1,), (1, 2, 3), (), [1, 2], None, 1, "ab",
            ("1", 2), (1, "2"), (None, 1), (1, None), ((1,), 2), {1: 2, 3: 4},
        ):
            self.assert_bad(2, (unit, *GOOD[2][1:]))
            self.assert_bad(2, (*GOOD[2][:3], unit))

    def test_too_few_or_too_many_units(self):
        for units in (GOOD[2][:3], GOOD[2] + ((1, 1),), ()):
            self.assert_bad(2, units)

    def test_tables_of_guards(self):
        for table in (
            (), ((0, 4, 4, 0),), ((3, 4, 0, 999),), ((0, 1, 0, 0), (1, 2, 0, 0), (2, 3, 1, 1), (3, 4, 4, 4)), ((0, 1, 4, 0), (3, 4, 4, 0)),
        ):
            self.assert_good(*self.with_part(3, table))
        for entry in (
            (0, 5, 0, 0), (4, 5, 0, 0), (0, 4, 5, 0), (0, 4, 0, 1000), (0, 4, 0, -1), (0, 4, -1, 0), (-1, 4, 0, 0), (0, 0, 0, 0), (2, 1, 0, 0),
            (4, 4, 0, 0), (True, 2, 0, 0), (0, True, 0, 0), (0, 2, True, 0), (0, 2, 0, True), (False, 2, 0, 0), (0, 2, False, 0),
            (0, 2, 0, False), (0, 2, 0), (0, 2, 0, 0, 0), (), [0, 2, 0, 0], None, 5, "abcd", ("0", 2, 0, 0), (0, "2", 0, 0), (0, 2, None, 0),
            (0, 2, 0, None), (None, 2, 0, 0), (0, None, 0, 0), ((0,), 2, 0, 0),
        ):
            self.assert_bad(3, (entry,))
        for table in (((0, 2, 0, 0), (1, 3, 0, 0)), ((2, 3, 0, 0), (0, 1, 0, 0)), ((0, 2, 0, 0), (0, 2, 0, 0)), ((0, 3, 0, 0), (1, 2, 0, 0)),
                      ((0, 1, 0, 0), (1, 1, 0, 0)), ((0, 1, 0, 0), (1, 2, 0, 0), (1, 3, 0, 0))):
            self.assert_bad(3, table)

    def test_tables_of_lines(self):
        for lines in (((4, 0),), ((1, 1), (1, 1), (1, 1), (1, 1)), ((2, 9999), (2, 9999))):
            self.assert_good(*self.with_part(4, lines))
        for lines in (
            (), ((3, 1),), ((5, 1),), ((1, 1), (2, 2)), ((2, 1), (3, 2)), ((4, -1),), ((4, 10000),), ((0, 1), (4, 2)), ((4, 1), (0, 2)),
            ((-1, 1), (5, 2)), ((5, 1), (-1, 2)), ((True, 1), (3, 2)), ((3, 1), (True, 2)), ((4, True),), ((4, False),), ((4,),),
            ((4, 1, 1),), ([4, 1],), (4, 1), ((4, None),), ((None, 1),), (("4", 1),), ((4, "1"),), ((4, 1), ()), ((4, 1), None),
        ):
            self.assert_bad(4, lines)
        units = tuple((1, 0) for count in range(10001))
        self.assert_good((1,), (), units[:9999], (), ((9999, 5),))
        self.assert_good((1,), (), units, ((0, 10001, 10001, 0),), ((9999, 5), (2, 5)))
        with self.assertRaises(BadUnits):
            Units((1,), (), units[:10000], (), ((10000, 5),))


class EqualTest(unittest.TestCase):
    def assert_unlike(self, units, other):
        for one, another in ((units, other), (other, units)):
            self.assertIs(one == another, False)
            self.assertIs(one != another, True)

    def assert_alike(self, units, other):
        for one, another in ((units, other), (other, units)):
            self.assertIs(one == another, True)
            self.assertIs(one != another, False)

    def test_made_anew(self):
        for seed in range(60):
            units = assembled(made_code(seed))
            self.assert_alike(units, units)
            self.assert_alike(units, Units(*parts_of(units)))
            self.assert_alike(units, Units(*copy.deepcopy(parts_of(units))))
            self.assert_alike(units, assembled(read_code(code_text(made_code(seed)))))

    def test_other_marks(self):
        for seed in range(60):
            code = loading_code(seed)
            other = with_other_marks(code, seed)
            self.assertTrue(other != code or not any(row[0] in JUMP_OPS + ("label",) for row in code))
            self.assertIsNone(why(other))
            self.assert_alike(assembled(code), assembled(other))

    def test_another_row(self):
        code = code_of(("push", 1), ("store", "a"), ("load", "a"), ("try", 1), ("load", "b"), "endtry", "add", "return", ("label", 1), "return")
        units = assembled(code)
        for at, row in (
            (0, ("push", 2, 100)), (0, ("push", True, 100)), (0, ("push", "a", 100)), (0, ("push", 1, 99)), (1, ("store", "c", 101)), (2, ("quick", "a", 102)),
            (6, ("sub", None, 106)), (6, ("add", None, 105)), (9, ("raise", None, 109)), (9, ("return", None, 100)), (4, ("load", "a", 104)),
        ):
            self.assert_unlike(units, assembled(code[:at] + [row] + code[at + 1:]))
        # The lines of rows that make no units are in no table.
        for at in (3, 5, 8):
            self.assert_alike(units, assembled(code[:at] + [(*code[at][:2], 5)] + code[at + 1:]))
        self.assert_unlike(units, assembled(code[:3] + [code[4], code[3]] + code[5:]))

    def test_another_part(self):
        units = Units(*GOOD)
        for at, part in (
            (0, (True, None, "Abc")), (0, (1, None)), (0, (1, None, "abc")), (0, (1, False, "Abc")), (1, ("a", "bd")), (1, ("a",)), (1, ("bc", "a")),
            (2, ((0, 1), (1, 2), (24, 0), (2, 14))), (2, ((0, 1), (1, 2), (24, 0), (3, 15))), (3, ()), (3, ((0, 1, 4, 0),)),
            (3, ((0, 1, 4, 0), (1, 3, 0, 998))), (4, ((3, 9999), (1, 1))), (4, ((2, 9999), (1, 9999), (1, 0))),
        ):
            self.assert_unlike(units, Units(*GOOD[:at], part, *GOOD[at + 1:]))
        self.assert_unlike(Units((0,), (), (), (), ()), Units((False,), (), (), (), ()))

    def test_other_things(self):
        units = Units(*GOOD)
        for thing in THINGS + (GOOD, list(GOOD), GOOD[2], len(units)):
            self.assert_unlike(units, thing)


class ToldTest(unittest.TestCase):
    def test_told_anew(self):
        for seed in range(20):
            code = made_code(seed)
            units = assembled(code)
            kept, rows = parts_of(units), listing(units)
            again = list(rows)
            rows.append("spoilt")
            rows[0] = "spoilt"
            self.assertEqual(kinds_of(listing(units)), kinds_of(again))
            self.assertEqual(kinds_of(parts_of(assembled(code))), kinds_of(kept))

    def test_listing_of_units_made_anew(self):
        for seed in range(20):
            units = assembled(made_code(seed))
            self.assertEqual(kinds_of(listing(Units(*parts_of(units)))), kinds_of(listing(units)))

    def test_refusals(self):
        assert_refuses_codes(self, assembled)


if __name__ == "__main__":
    unittest.main()
