"""Promise 12.1, and of 0.1 to 0.3 what touches it: both tables packed and unpacked."""

import copy
import random
import unittest

from codemill.errors import BadBytes
from codemill.packing import pack_lines, pack_table, unpack_lines, unpack_table
from codemill.units import assembled
from tests.helper import THINGS, kinds_of, loading_code

# Numbers with their digits, as the document tells, by hand.
PACKED = {
    0: [0], 1: [1], 62: [62], 63: [63], 64: [65, 0], 65: [65, 1], 127: [65, 63], 128: [66, 0], 999: [79, 39], 4095: [127, 63],
    4096: [65, 64, 0], 4097: [65, 64, 1], 4160: [65, 65, 0], 8191: [65, 127, 63], 8192: [66, 64, 0], 9999: [66, 92, 15],
}


def packed(number):
    """The number packed, the last digit first reckoned."""
    parts = [number % 64]
    while number >= 64:
        number //= 64
        parts.insert(0, number % 64 + 64)
    return parts


def packed_change(change):
    return packed(2 * change if change >= 0 else -2 * change - 1)


class PackingCase(unittest.TestCase):
    def assert_packs(self, pack, unpack, table, parts):
        kept = copy.deepcopy(table)
        found = pack(table)
        self.assertEqual(kinds_of(found), kinds_of(parts), table)
        self.assertTrue(all(0 <= part < 128 for part in found))
        self.assertEqual(kinds_of(unpack(found)), kinds_of(table))
        self.assertEqual(kinds_of(found), kinds_of(parts))
        self.assertEqual(kinds_of(table), kinds_of(kept))
        found.append(0)
        self.assertEqual(pack(table), parts)

    def assert_refuses(self, ask, thing):
        kept = copy.deepcopy(thing)
        with self.subTest(ask=ask.__name__, thing=thing), self.assertRaises(BadBytes):
            ask(thing)
        self.assertEqual(kinds_of(thing), kinds_of(kept))

    def assert_unpacked_or_refused(self, pack, unpack, parts):
        """Check that what is unpacked packs to that very list; tells whether it was."""
        try:
            table = unpack(parts)
        except BadBytes:
            return False
        self.assertEqual(kinds_of(pack(table)), kinds_of(parts))
        return True


class TableTest(PackingCase):
    def assert_table(self, table):
        parts = []
        for begin, end, goal, depth in table:
            parts += packed(begin) + packed(end - begin) + packed(goal) + packed(depth)
        self.assert_packs(pack_table, unpack_table, table, parts)

    def test_numbers(self):
        for number, parts in PACKED.items():
            self.assertEqual(packed(number), parts)
            self.assert_packs(pack_table, unpack_table, ((0, 1, number, 0),), [0, 1, *parts, 0])
            if number > 0:
                self.assert_packs(pack_table, unpack_table, ((0, number, 0, 0),), [0, *parts, 0, 0])
            if number < 9999:
                self.assert_packs(pack_table, unpack_table, ((number, number + 1, 7, 5),), [*parts, 1, 7, 5])
            if number < 1000:
                self.assert_packs(pack_table, unpack_table, ((3, 5, 8, number),), [3, 2, 8, *parts])

    def test_all_goals(self):
        for number in range(10000):
            self.assertEqual(unpack_table([0, 1, *packed(number), 0]), ((0, 1, number, 0),))
        self.assert_refuses(unpack_table, [0, 1, *packed(10000), 0])

    def test_empty(self):
        self.assert_table(())
        self.assertEqual(pack_table(()), [])
        self.assertEqual(unpack_table([]), ())

    def test_several_entries(self):
        self.assert_table(((0, 1, 4, 0), (1, 3, 0, 999), (3, 9999, 9999, 5)))
        self.assert_table(((5, 70, 4096, 64), (70, 71, 64, 63), (9998, 9999, 63, 0)))
        self.assertEqual(pack_table(((5, 70, 4096, 64),)), [5, 65, 1, 65, 64, 0, 65, 0])

    def test_tables_of_units(self):
        for seed in range(100):
            self.assert_table(assembled(loading_code(seed)).table())

    def test_tables_by_chance(self):
        chance = random.Random(121)
        for count in range(200):
            table, low = [], 0
            while low < 9000 and chance.random() < 0.9:
                begin = chance.randint(low, 9990)
                end = chance.randint(begin + 1, min(9999, begin + 3000))
                table.append((begin, end, chance.randint(0, 9999), chance.randint(0, 999)))
                low = end
            self.assert_table(tuple(table))

    def test_tables_that_are_none(self):
        for thing in THINGS:
            if thing != ():
                self.assert_refuses(pack_table, thing)
        for entry in (
            (0, 10000, 0, 0), (9999, 10000, 0, 0), (0, 1, 10000, 0), (0, 1, 0, 1000), (0, 1, 0, -1), (0, 1, -1, 0), (-1, 1, 0, 0), (0, 0, 0, 0),
            (2, 1, 0, 0), (True, 2, 0, 0), (False, 2, 0, 0), (0, True, 0, 0), (0, 1, True, 0), (0, 1, False, 0), (0, 1, 0, True), (0, 1, 0, False),
            (0, 1, 0), (0, 1, 0, 0, 0), [0, 1, 0, 0], (), None, 1, "abcd", ("0", 1, 0, 0), (None, 1, 0, 0), (0, "1", 0, 0), (0, None, 0, 0),
            (0, 1, "0", 0), (0, 1, None, 0), (0, 1, 0, None), (0, 1, 0, [0]), ((0,), 1, 0, 0),
        ):
            self.assert_refuses(pack_table, (entry,))
            self.assert_refuses(pack_table, ((0, 1, 5, 5), entry))
        for table in (((0, 2, 0, 0), (1, 3, 0, 0)), ((2, 3, 0, 0), (0, 1, 0, 0)), ((0, 2, 0, 0), (0, 2, 0, 0)), [(0, 1, 0, 0)], {(0, 1, 0, 0): 1}):
            self.assert_refuses(pack_table, table)
        pack_table(((0, 9999, 9999, 999),))

    def test_lists_that_pack_none(self):
        good = [3, 65, 1, 66, 92, 15, 79, 39]
        self.assertEqual(unpack_table(good), ((3, 68, 9999, 999),))
        for many in range(1, len(good)):
            self.assert_refuses(unpack_table, good[:many])
            self.assert_refuses(unpack_table, good + good[:many])
        for at in range(len(good)):
            for part in (-1, 128, 129, 999, -64, True, False, None, "1", "", [1], (1,), {}, 999999999999999):
                self.assert_refuses(unpack_table, good[:at] + [part] + good[at + 1:])
        # Needless digits, one of them and more, ahead of each number.
        for at in (0, 1, 3, 6):
            self.assert_refuses(unpack_table, good[:at] + [64] + good[at:])
            self.assert_refuses(unpack_table, good[:at] + [64, 64] + good[at:])
        for parts in (
            [0, 0, 0, 0], [0, 1, 66, 92, 16, 0], [0, 1, 0, 79, 40], [0, 66, 92, 16, 0, 0], [66, 92, 15, 1, 0, 0], [0, 2, 0, 0, 1, 1, 0, 0],
            [64], [64, 0], [127] * 50, [127] * 50 + [0, 1, 1, 1], [0, 1, 0, 0, 0, 0, 0, 0], [0, 1, 0, 0, 1, 0, 0, 0],
        ):
            self.assert_refuses(unpack_table, parts)
        self.assertEqual(unpack_table([66, 92, 14, 1, 0, 0]), ((9998, 9999, 0, 0),))

    def test_things_that_are_no_lists(self):
        for thing in THINGS + ((0, 1, 0, 0), "abcd", {0: 0}, ((0, 1, 0, 0),), [(0, 1, 0, 0)]):
            if thing != []:
                self.assert_refuses(unpack_table, thing)

    def test_lists_by_chance(self):
        chance, let_by = random.Random(122), 0
        for count in range(4000):
            parts = [chance.choice((0, 1, 2, 3, 63, 64, 65, 66, 127)) for part in range(chance.randint(0, 9))]
            let_by += self.assert_unpacked_or_refused(pack_table, unpack_table, parts)
        self.assertGreater(let_by, 100)


class LinesTest(PackingCase):
    def assert_lines(self, lines):
        parts, ahead = [], 0
        for many, line in lines:
            parts += packed(many) + packed_change(line - ahead)
            ahead = line
        self.assert_packs(pack_lines, unpack_lines, lines, parts)

    def test_numbers(self):
        for number, parts in PACKED.items():
            if number > 0:
                self.assert_packs(pack_lines, unpack_lines, ((number, 0),), [*parts, 0])
            if number % 2 == 0:
                self.assert_packs(pack_lines, unpack_lines, ((1, number // 2),), [1, *parts])
            else:
                self.assert_packs(pack_lines, unpack_lines, ((1, 9999), (1, 9999 - (number + 1) // 2)), [1, *packed(2 * 9999), 1, *parts])

    def test_lines_that_rise_fall_and_stay(self):
        self.assert_packs(pack_lines, unpack_lines, ((1, 5), (2, 7), (3, 6), (4, 6), (5, 0)), [1, 10, 2, 4, 3, 1, 4, 0, 5, 11])
        self.assert_lines(((1, 0), (1, 9999), (1, 0), (1, 9999)))
        self.assert_lines(((9999, 32), (9999, 0), (64, 64), (63, 63)))
        self.assert_lines(tuple((1, line) for line in range(0, 9999, 71)))
        self.assert_lines(tuple((5, line) for line in range(9999, 0, -67)))

    def test_all_lines_and_how_many(self):
        for number in range(10000):
            self.assertEqual(unpack_lines(pack_lines(((1, number),))), ((1, number),))
            self.assertEqual(unpack_lines(pack_lines(((1, 9999), (1, number)))), ((1, 9999), (1, number)))
            if number > 0:
                self.assertEqual(unpack_lines([*packed(number), 0]), ((number, 0),))

    def test_empty(self):
        self.assert_lines(())
        self.assertEqual((pack_lines(()), unpack_lines([])), ([], ()))

    def test_tables_of_units(self):
        for seed in range(100):
            self.assert_lines(assembled(loading_code(seed)).lines())

    def test_tables_that_are_none(self):
        for thing in THINGS:
            if thing != ():
                self.assert_refuses(pack_lines, thing)
        for entry in (
            (0, 1), (-1, 1), (10000, 1), (1, -1), (1, 10000), (True, 1), (1, True), (1, False), (False, 1), (1,), (1, 2, 3), [1, 2], (), None, 1, "ab",
            ("1", 2), (1, "2"), (None, 1), (1, None), ((1,), 2),
        ):
            self.assert_refuses(pack_lines, (entry,))
            self.assert_refuses(pack_lines, ((1, 1), entry))
        self.assert_refuses(pack_lines, [(1, 1)])
        self.assert_lines(((9999, 9999),))

    def test_lists_that_pack_none(self):
        good = [65, 0, 65, 64, 0, 2, 1]
        self.assertEqual(unpack_lines(good), ((64, 2048), (2, 2047)))
        for many in range(1, len(good)):
            if many != 5:
                self.assert_refuses(unpack_lines, good[:many])
                self.assert_refuses(unpack_lines, good + good[:many])
        for at in range(len(good)):
            for part in (-1, 128, 129, 999, True, False, None, "1", [1], (1,), {}):
                self.assert_refuses(unpack_lines, good[:at] + [part] + good[at + 1:])
        for at in (0, 2, 5, 6):
            self.assert_refuses(unpack_lines, good[:at] + [64] + good[at:])
        for parts in (
            [0, 0], [1, 1], [1, 3], [1, 10, 0, 0], [1, 10, 1, 11, 1, 1], [*packed(10000), 0], [1, *packed(2 * 10000)], [1, *packed(2 * 9999), 1, 2],
            [1], [64], [1, 64], [127] * 40, [1, 2, 3],
        ):
            self.assert_refuses(unpack_lines, parts)
        self.assertEqual(unpack_lines([1, 10, 1, 9]), ((1, 5), (1, 0)))
        self.assert_refuses(unpack_lines, [1, 10, 1, 11])

    def test_things_that_are_no_lists(self):
        for thing in THINGS + ((1, 0), "ab", {1: 0}, ((1, 0),), [(1, 0)]):
            if thing != []:
                self.assert_refuses(unpack_lines, thing)

    def test_lists_by_chance(self):
        chance, let_by = random.Random(123), 0
        for count in range(4000):
            parts = [chance.choice((0, 1, 2, 3, 63, 64, 65, 66, 127)) for part in range(chance.randint(0, 7))]
            let_by += self.assert_unpacked_or_refused(pack_lines, unpack_lines, parts)
        self.assertGreater(let_by, 100)


if __name__ == "__main__":
    unittest.main()
