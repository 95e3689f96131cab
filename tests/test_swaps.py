"""Promise 8.1, and of 0.1 to 0.3 what touches it: fewest swaps, and codes with short groups of swaps."""

import copy
import itertools
import random
import unittest

from codemill.errors import BadOrder
from codemill.swaps import fewest_swaps, is_swapped, swapped
from tests.helper import THINGS, assert_betters, assert_refuses_codes, code_of, kinds_of, made_code


def lies_behind(many, numbers):
    """What lies at each of so many places, from the top on, behind swaps by the numbers."""
    lying = list(range(many))
    for number in numbers:
        top = lying[0]
        lying[0] = lying[number - 1]
        lying[number - 1] = top
    return lying


def fewest_by_search(many):
    """For each order of so many places how many swaps it takes, all rows of swaps gone through by their length."""
    found = {tuple(range(many)): 0}
    level = [tuple(range(many))]
    length = 0
    while level:
        length += 1
        further = []
        for lying in level:
            for number in range(2, many + 1):
                behind = list(lying)
                behind[0], behind[number - 1] = behind[number - 1], behind[0]
                if tuple(behind) not in found:
                    found[tuple(behind)] = length
                    further.append(tuple(behind))
        level = further
    return found


def fewest_by_rounds(order):
    """How many swaps the order takes: one fewer than places for the round with the top, one more for each other one."""
    left = set(range(len(order)))
    many = 0
    while left:
        first = place = min(left)
        size = 0
        while place in left:
            left.remove(place)
            place = order[place]
            size += 1
        if size > 1:
            many += size - 1 if first == 0 else size + 1
    return many


def turned(order):
    return [order.index(place) for place in range(len(order))]


class FewestTest(unittest.TestCase):
    def assert_makes(self, order, many):
        kept = list(order)
        numbers = fewest_swaps(order)
        self.assertIs(type(numbers), list)
        self.assertTrue(all(type(number) is int and 2 <= number <= len(order) for number in numbers), order)
        self.assertEqual(lies_behind(len(order), numbers), order)
        self.assertEqual(len(numbers), many, order)
        self.assertEqual(order, kept)
        self.assertLessEqual(2 * len(numbers), 3 * len(order), order)
        self.assertEqual(len(fewest_swaps(turned(order))), many, order)

    def test_all_orders_of_up_to_five_places(self):
        for many in range(1, 6):
            lengths = fewest_by_search(many)
            self.assertEqual(len(lengths), len(list(itertools.permutations(range(many)))))
            for order in itertools.permutations(range(many)):
                self.assert_makes(list(order), lengths[order])

    def test_all_orders_of_six_and_seven_places(self):
        for many in (6, 7):
            for order, length in fewest_by_search(many).items():
                self.assert_makes(list(order), length)

    def test_many_orders_of_eight_and_nine_places(self):
        chance = random.Random(81)
        for many in (8, 9):
            lengths = fewest_by_search(8) if many == 8 else None
            for count in range(500):
                order = list(range(many))
                chance.shuffle(order)
                self.assert_makes(order, lengths[tuple(order)] if lengths else fewest_by_rounds(order))

    def test_the_second_reckoning_of_lengths(self):
        for order, length in fewest_by_search(6).items():
            self.assertEqual(fewest_by_rounds(order), length)

    def test_the_order_as_it_is(self):
        for many in range(1, 10):
            self.assertEqual(fewest_swaps(list(range(many))), [])

    def test_orders_by_hand(self):
        self.assertEqual(fewest_swaps([1, 0]), [2])
        self.assertEqual(fewest_swaps([2, 1, 0]), [3])
        self.assertEqual(len(fewest_swaps([0, 2, 1])), 3)
        # The top gets what lay second, the second what lay third, the third what lay on top.
        self.assertEqual(fewest_swaps([1, 2, 0]), [3, 2])
        self.assertEqual(fewest_swaps([2, 0, 1]), [2, 3])
        self.assertEqual(len(fewest_swaps([0, 2, 1, 4, 3, 6, 5, 8, 7])), 12)
        self.assertEqual(len(fewest_swaps([8, 0, 1, 2, 3, 4, 5, 6, 7])), 8)

    def test_told_anew(self):
        order = [3, 1, 0, 2]
        numbers = fewest_swaps(order)
        kept = list(numbers)
        numbers.append(9)
        self.assertEqual(fewest_swaps(order), kept)


class OrdersTest(unittest.TestCase):
    def test_things_that_are_no_orders(self):
        for thing in THINGS + (
            [], [0] * 2, [1], [1, 2], [0, 2], [0, 1, 3], [2, 0], [-1, 0], [0, -1], [0, 0], [1, 1], [0, 1, 1], [1, 0, 2, 2],
            [True, False], [False, True], [False], [True], [0, True], [False, 1], [0, 1, True], (0,), (0, 1), (1, 0),
            list(range(10)), list(range(9, -1, -1)), list(range(11)), [0, None], [None, 0], [0, "1"], ["0"], [[0]], [(0,)],
            [0, [1]], {0: 0}, {0: 1, 1: 0}, "0", "01", [0, 999999999999999], 0, 1, None, [{}], [0, 1, {}],
        ):
            if kinds_of(thing) == kinds_of([0]):
                continue
            kept = copy.deepcopy(thing)
            with self.subTest(thing=thing), self.assertRaises(BadOrder):
                fewest_swaps(thing)
            self.assertEqual(kinds_of(thing), kinds_of(kept))

    def test_nine_places_are_let_by(self):
        self.assertEqual(lies_behind(9, fewest_swaps(list(range(8, -1, -1)))), list(range(8, -1, -1)))


def groups_of(code):
    """The groups of swaps, as pairs of the first place and the one behind the last."""
    found = []
    for place, row in enumerate(code):
        if row[0] == "swap":
            if found and found[-1][1] == place:
                found[-1] = (found[-1][0], place + 1)
            else:
                found.append((place, place + 1))
    return found


def is_too_long(code, group):
    """Whether fewer swaps do the same as the group."""
    numbers = [row[1] for row in code[group[0]:group[1]]]
    return fewest_by_rounds(lies_behind(9, numbers)) < len(numbers)


def is_left(code):
    return any(is_too_long(code, group) for group in groups_of(code))


class SwappedTest(unittest.TestCase):
    def assert_swaps(self, code):
        found = assert_betters(self, swapped, is_swapped, code, is_left)
        rows, behind = [], 0
        # All rows but those of groups that are too long stand there as they were.
        for begin, end in groups_of(code):
            rows += code[behind:begin]
            numbers = [row[1] for row in code[begin:end]]
            if is_too_long(code, (begin, end)):
                many = fewest_by_rounds(lies_behind(9, numbers))
                put = found[len(rows):len(rows) + many]
                self.assertEqual([row[0] for row in put], ["swap"] * many)
                self.assertEqual(lies_behind(9, [row[1] for row in put]), lies_behind(9, numbers))
                rows += put
            else:
                rows += code[begin:end]
            behind = end
        rows += code[behind:]
        self.assertEqual(kinds_of(found), kinds_of(rows))
        return found

    def assert_rows(self, rows, others):
        found = self.assert_swaps(code_of(*rows))
        self.assertEqual([row[:2] for row in found], [row[:2] for row in code_of(*others)])

    def assert_stays(self, *rows):
        code = code_of(*rows)
        self.assertEqual(kinds_of(self.assert_swaps(code)), kinds_of(code))
        self.assertIs(is_swapped(code), True)

    def test_groups_that_do_nothing(self):
        ahead = [("load", "a"), ("load", "b"), ("load", "c")]
        behind = ["tell", "tell", "return"]
        self.assert_rows([*ahead, ("swap", 2), ("swap", 2), *behind], [*ahead, *behind])
        self.assert_rows([*ahead, ("swap", 3), ("swap", 3), ("swap", 3), ("swap", 3), *behind], [*ahead, *behind])
        self.assert_rows([*ahead, ("swap", 2), ("swap", 3), ("swap", 3), ("swap", 2), *behind], [*ahead, *behind])

    def test_groups_that_are_too_long(self):
        ahead = [("load", "a"), ("load", "b"), ("load", "c"), ("load", "d")]
        behind = ["tell", "tell", "tell", "return"]
        self.assert_rows([*ahead, ("swap", 2), ("swap", 2), ("swap", 3), *behind], [*ahead, ("swap", 3), *behind])
        self.assert_rows([*ahead, ("swap", 4), ("swap", 2), ("swap", 2), *behind], [*ahead, ("swap", 4), *behind])
        found = self.assert_swaps(code_of(*ahead, ("swap", 2), ("swap", 3), ("swap", 2), ("swap", 3), *behind))
        self.assertEqual(len(found), 10)

    def test_groups_that_are_short(self):
        ahead = [("load", "a"), ("load", "b"), ("load", "c")]
        self.assert_stays(*ahead, ("swap", 2), "tell", "return")
        self.assert_stays(*ahead, ("swap", 2), ("swap", 3), "tell", "return")
        self.assert_stays(*ahead, ("swap", 2), ("swap", 3), ("swap", 2), "tell", "return")
        # These three could be told otherwise, but not by fewer.
        self.assert_stays(*ahead, ("swap", 3), ("swap", 2), ("swap", 3), "tell", "return")
        self.assert_stays(("push", 1), "return")

    def test_a_short_group_stays_beside_a_long_one(self):
        ahead = [("load", "a"), ("load", "b"), ("load", "c")]
        code = code_of(*ahead, ("swap", 3), ("swap", 2), ("swap", 3), "tell", ("load", "d"), ("swap", 2), ("swap", 2), "tell", "tell", "return")
        found = self.assert_swaps(code)
        self.assertEqual(found, code[:8] + code[10:])

    def test_groups_parted_by_other_rows(self):
        ahead = [("load", "a"), ("load", "b"), ("load", "c")]
        self.assert_stays(*ahead, ("swap", 2), ("label", 1), ("swap", 2), "tell", "return")
        self.assert_stays(*ahead, ("swap", 2), ("copy", 3), ("swap", 2), "tell", "return")
        self.assert_stays(*ahead, ("swap", 2), ("try", 1), "endtry", ("swap", 2), "return", ("label", 1), "return")
        self.assert_rows([*ahead, ("swap", 2), ("swap", 2), ("label", 1), ("swap", 2), "tell", "return"], [*ahead, ("label", 1), ("swap", 2), "tell", "return"])

    def test_groups_directly_ahead_of_jumps_and_labels(self):
        ahead = [("load", "a"), ("load", "b"), ("load", "c")]
        for op in ("jump", "iftrue", "iffalse"):
            behind = [("label", 1), "return", ("label", 2), "return"]
            between = [] if op == "jump" else [("jump", 2)]
            self.assert_rows([*ahead, ("swap", 3), ("swap", 2), ("swap", 2), (op, 1), *between, *behind],
                             [*ahead, ("swap", 3), (op, 1), *between, *behind])
        for op in ("ortrue", "orfalse"):
            self.assert_rows([*ahead, ("swap", 3), ("swap", 3), (op, 1), ("push", 1), ("label", 1), ("swap", 2), ("swap", 2), "return"],
                             [*ahead, (op, 1), ("push", 1), ("label", 1), "return"])

    def test_groups_at_the_beginning_and_at_the_end(self):
        # No walk comes to these, as place 0 of a sound code has no values to swap, and none comes behind the last row.
        self.assert_rows([("jump", 0), ("swap", 2), ("swap", 2), ("label", 0), ("push", 1), "return"],
                         [("jump", 0), ("label", 0), ("push", 1), "return"])
        self.assert_rows([("push", 1), "return", ("swap", 4), ("swap", 4), ("swap", 5)], [("push", 1), "return", ("swap", 5)])
        self.assert_rows([("push", 1), "return", ("swap", 4), ("swap", 4)], [("push", 1), "return"])
        self.assert_rows([("load", "a"), ("load", "b"), ("swap", 2), ("swap", 2), "return"], [("load", "a"), ("load", "b"), "return"])

    def test_within_guards(self):
        ahead = [("load", "a"), ("try", 1), ("load", "b"), ("load", "c")]
        behind = ["add", "return", ("label", 1), "return"]
        self.assert_rows([*ahead, ("swap", 2), ("swap", 2), *behind], [*ahead, *behind])
        self.assert_stays(*ahead, ("swap", 2), *behind)

    def test_groups_by_chance(self):
        chance = random.Random(82)
        for count in range(300):
            rows = [("load", chance.choice("abc")) for place in range(9)]
            for group in range(chance.randint(1, 5)):
                rows += [("swap", chance.randint(2, 9)) for swap in range(chance.randint(1, 12))]
                rows.append(chance.choice((("label", group), ("copy", 2), ("load", "a"))))
            self.assert_swaps(code_of(*rows, *["tell"] * 9, ("push", 1), "return"))

    def test_codes_made_by_chance(self):
        for seed in range(200):
            self.assert_swaps(made_code(seed))

    def test_refusals(self):
        for ask in (swapped, is_swapped):
            assert_refuses_codes(self, ask)


if __name__ == "__main__":
    unittest.main()
