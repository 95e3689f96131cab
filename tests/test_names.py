"""Promise 9.1, and of 0.1 to 0.3 what touches it: names surely set, and loads made quick."""

import copy
import random
import unittest

from codemill.codes import label_places
from codemill.errors import BadCode, BadNames, Unsound
from codemill.machine import Walk
from codemill.names import quickened, surely
from codemill.sound import next_states, states, why
from tests.helper import (
    BAD_GIVEN, UNSOUND, assert_refuses_codes, assert_tells_alike, code_of, kinds_of, loading_code, made_code,
    names_by_chance,
)

NAMES = ("a", "b", "cd")


def nexts_of(code, found, place):
    """The pairs of a place that comes next and whether it is come to by a fault."""
    ways = next_states(code, label_places(code), place, found[place])
    is_endtry = code[place][0] == "endtry"
    return [(goal, len(state[1]) < len(found[place][1]) and not is_endtry) for goal, state in ways]


def surely_by_search(code, given):
    """The names surely set, by going through all sets of set names in which each place is come to."""
    found = states(code)
    come = {(0, frozenset(given))}
    waiting = list(come)
    while waiting:
        place, names = waiting.pop()
        op, arg, line = code[place]
        for goal, faulted in nexts_of(code, found, place):
            behind = names
            if not faulted and op in ("store", "load"):
                behind = names | {arg}
            if not faulted and op == "clear":
                behind = names - {arg}
            if (goal, behind) not in come:
                come.add((goal, behind))
                waiting.append((goal, behind))
    told = []
    for place, state in enumerate(found):
        sets = [names for at, names in come if at == place]
        told.append(None if state is None else sorted(frozenset.intersection(*sets)))
    return told


def is_set_behind(code, walk, faults, name, given):
    """Whether the name is set at the end of a walk, by the document's words; faults tells which steps were faults."""
    rows = [code[place] for place, faulted in zip(walk, faults) if not faulted]
    clears = [at for at, row in enumerate(rows) if row[:2] == ("clear", name)]
    behind = rows[clears[-1] + 1:] if clears else rows
    if any(row[:2] in (("store", name), ("load", name)) for row in behind):
        return True
    return not clears and name in given


class SurelyTest(unittest.TestCase):
    def assert_surely(self, rows, told, given=()):
        code = code_of(*rows)
        self.assertIsNone(why(code))
        self.assertEqual(kinds_of(surely(code, given=given)), kinds_of(told))
        self.assertEqual(surely_by_search(code, given), told)

    def test_straight_on(self):
        rows = [("push", 1), ("store", "b"), ("load", "a"), ("quick", "c"), ("clear", "b"), "return"]
        self.assert_surely(rows, [[], [], ["b"], ["a", "b"], ["a", "b"], ["a"]])

    def test_given(self):
        rows = [("push", 1), ("store", "b"), ("clear", "a"), ("clear", "zz"), "return"]
        rows[4:] = [("push", 2), "return"]
        self.assert_surely(rows, [[], [], ["b"], ["b"], ["b"], ["b"]])
        self.assert_surely(rows, [["a"], ["a"], ["a", "b"], ["b"], ["b"], ["b"]], given=("a",))
        self.assert_surely(rows, [["a", "zz"], ["a", "zz"], ["a", "b", "zz"], ["b", "zz"], ["b"], ["b"]], given=("a", "zz"))
        # A name that is given needn't stand in the code.
        self.assert_surely([("push", 1), "return"], [["x", "yy"], ["x", "yy"]], given=("x", "yy"))

    def test_quick_sets_nothing(self):
        self.assert_surely([("quick", "a"), "tell", ("quick", "a"), "return"], [[], [], [], []])

    def test_cleared_and_set_anew(self):
        rows = [("clear", "a"), ("push", 1), ("store", "a"), ("clear", "a"), ("load", "a"), "return"]
        self.assert_surely(rows, [["a"], [], [], ["a"], [], ["a"]], given=("a",))
        self.assert_surely(rows, [[], [], [], ["a"], [], ["a"]])

    def test_set_on_one_way_only(self):
        rows = [("quick", "c"), ("iftrue", 1), ("push", 1), ("store", "a"), ("label", 1), ("push", 2), "return"]
        self.assert_surely(rows, [[], [], [], [], [], [], []])
        self.assert_surely(rows, [["a"]] * 7, given=("a",))

    def test_set_on_both_ways(self):
        rows = [("quick", "c"), ("iftrue", 1), ("push", 1), ("store", "a"), ("jump", 2), ("label", 1), ("load", "a"), ("store", "b"), ("label", 2),
                ("push", 2), "return"]
        self.assert_surely(rows, [[], [], [], [], ["a"], [], [], ["a"], ["a"], ["a"], ["a"]])

    def test_cleared_on_one_way(self):
        rows = [("push", 5), ("store", "a"), ("quick", "c"), ("iftrue", 1), ("clear", "a"), ("label", 1), ("push", 2), "return"]
        self.assert_surely(rows, [[], [], ["a"], ["a"], ["a"], [], [], []])

    def test_rounds(self):
        # Each round but the first finds what the one ahead has set.
        rows = [("label", 1), ("push", 5), ("store", "a"), ("quick", "c"), ("iftrue", 1), ("push", 2), "return"]
        self.assert_surely(rows, [[], [], [], ["a"], ["a"], ["a"], ["a"]])
        rows = [("push", 5), ("store", "a"), ("label", 1), ("quick", "c"), ("iftrue", 2), ("clear", "a"), ("jump", 1), ("label", 2), ("push", 2), "return"]
        self.assert_surely(rows, [[], [], [], [], [], [], [], [], [], []])
        rows[5:6] = [("push", 1), ("store", "b")]
        self.assert_surely(rows, [[], [], ["a"], ["a"], ["a"], ["a"], ["a"], ["a", "b"], ["a"], ["a"], ["a"]])

    def test_place_0_is_come_to_again(self):
        rows = [("label", 1), ("clear", "a"), ("quick", "b"), ("iftrue", 1), ("push", 1), "return"]
        self.assert_surely(rows, [[], [], [], [], [], []], given=("a",))

    def test_handlers(self):
        # A load that faulted has set nothing.
        rows = [("try", 1), ("load", "a"), "endtry", "return", ("label", 1), "return"]
        self.assert_surely(rows, [[], [], ["a"], ["a"], [], []])
        # A clear that faulted has cleared nothing; what it had cleared is so behind it.
        rows = [("push", 1), ("store", "a"), ("try", 1), ("clear", "a"), "endtry", ("push", 1), "return", ("label", 1), "return"]
        self.assert_surely(rows, [[], [], ["a"], ["a"], [], [], [], ["a"], ["a"]])
        # One of several rows may have faulted, so nothing is sure that came behind the first of them.
        rows = [("try", 1), ("load", "b"), ("store", "a"), ("load", "c"), "endtry", "return", ("label", 1), "return"]
        self.assert_surely(rows, [[], [], ["b"], ["a", "b"], ["a", "b", "c"], ["a", "b", "c"], [], []])
        rows = [("push", 1), ("store", "a"), ("try", 1), ("load", "b"), ("clear", "a"), ("load", "c"), "endtry", "return", ("label", 1), "return"]
        rows[6:] = ["add", "endtry", "return", ("label", 1), "return"]
        self.assert_surely(rows, [[], [], ["a"], ["a"], ["a", "b"], ["b"], ["b", "c"], ["b", "c"], ["b", "c"], [], []])

    def test_where_no_walk_comes(self):
        rows = [("push", 1), ("store", "a"), ("load", "a"), "return", ("load", "a"), ("label", 3), ("clear", "a")]
        self.assert_surely(rows, [[], [], ["a"], ["a"], None, None, None])

    def test_codes_made_by_chance(self):
        some = 0
        for seed in range(150):
            code = loading_code(seed)
            for given in ((), ("a",), ("a", "b"), ("b", "cd"), ("a", "b", "cd", "zz")):
                told = surely(code, given=given)
                self.assertEqual(kinds_of(told), kinds_of(surely_by_search(code, given)))
                some += sum(bool(names) for names in told)
        self.assertGreater(some, 1000)

    def test_on_walks_by_chance(self):
        for seed in range(150):
            chance = random.Random(seed)
            code, given = loading_code(seed), chance.choice(((), ("a",), ("b", "cd")))
            found, told = states(code), surely(code, given=given)
            for count in range(20):
                walk, faults = [0], []
                while len(walk) < 80:
                    for name in NAMES:
                        if name in told[walk[-1]]:
                            self.assertTrue(is_set_behind(code, walk, faults, name, given), (code, walk, name))
                    ways = nexts_of(code, found, walk[-1])
                    if not ways:
                        break
                    goal, faulted = chance.choice(ways)
                    walk.append(goal)
                    faults.append(faulted)

    def test_names_set_have_values(self):
        for seed in range(150):
            code = loading_code(seed)
            told, names = surely(code, given=("a",)), {"a": 5, **names_by_chance(seed)}
            walk = Walk(code, names)
            while walk.place() is not None and len(walk) < 200:
                self.assertLessEqual(set(told[walk.place()]), set(walk.names()))
                walk.step()

    def test_with_more_names_given_no_fewer_are_told(self):
        for seed in range(100):
            code = loading_code(seed)
            for fewer, more in (((), ("a",)), (("a",), ("a", "b")), (("b",), ("a", "b", "cd"))):
                for names, others in zip(surely(code, given=fewer), surely(code, given=more)):
                    self.assertEqual(names is None, others is None)
                    if names is not None:
                        self.assertLessEqual(set(names), set(others))

    def test_told_anew(self):
        code, given = made_code(5), ("a", "b")
        kept = copy.deepcopy(code)
        told = surely(code, given=given)
        again = copy.deepcopy(told)
        for names in told:
            if names is not None:
                names.append("spoilt")
        told.append(None)
        self.assertEqual(surely(code, given=given), again)
        self.assertEqual((code, given), (kept, ("a", "b")))


class QuickenedTest(unittest.TestCase):
    def assert_quickens(self, code, given=()):
        kept = copy.deepcopy(code)
        found = quickened(code, given=given)
        told = surely_by_search(code, given)
        wished = [("quick", *row[1:]) if row[0] == "load" and names is not None and row[1] in names else row for row, names in zip(code, told)]
        self.assertEqual(kinds_of(found), kinds_of(wished))
        self.assertEqual(kinds_of(code), kinds_of(kept))
        self.assertIsNone(why(found))
        again = list(found)
        found.append("spoilt")
        self.assertEqual(kinds_of(quickened(code, given=given)), kinds_of(again))
        return again

    def assert_same_steps(self, code, found, names):
        walk, other = Walk(code, names), Walk(found, names)
        for count in range(150):
            self.assertEqual(walk.place(), other.place())
            at = other.place()
            if at is not None and found[at][0] == "quick" and code[at][0] == "load":
                self.assertIn(found[at][1], other.names())
            self.assertEqual(walk.step(), other.step())
            for ask in (Walk.stack, Walk.names, Walk.guards, Walk.told, Walk.end):
                self.assertEqual(kinds_of(ask(walk)), kinds_of(ask(other)))

    def test_by_hand(self):
        code = code_of(("load", "a"), ("load", "a"), ("load", "b"), ("store", "b"), ("load", "b"), ("clear", "a"), ("load", "a"), "return", ("load", "a"))
        self.assertEqual([at for at, row in enumerate(self.assert_quickens(code)) if row[0] == "quick"], [1, 4])
        self.assertEqual([at for at, row in enumerate(self.assert_quickens(code, ("a",))) if row[0] == "quick"], [0, 1, 4])
        self.assertEqual([at for at, row in enumerate(self.assert_quickens(code, ("a", "b"))) if row[0] == "quick"], [0, 1, 2, 4])
        self.assertEqual(self.assert_quickens(code)[1], ("quick", "a", 101))

    def test_nothing_to_do(self):
        for rows in ([("load", "a"), "return"], [("quick", "a"), ("load", "a"), "return"], [("push", 1), "return", ("load", "a")]):
            self.assertEqual(kinds_of(self.assert_quickens(code_of(*rows))), kinds_of(code_of(*rows)))

    def test_a_load_in_a_handler(self):
        code = code_of(("try", 1), ("load", "a"), ("load", "a"), "add", "return", ("label", 1), "drop", ("load", "a"), "return")
        found = self.assert_quickens(code)
        self.assertEqual([row[0] for row in found if row[1] == "a"], ["load", "quick", "load"])

    def test_codes_made_by_chance(self):
        changed = 0
        for seed in range(90):
            code = loading_code(seed)
            for given in ((), ("a",), ("a", "b", "cd")):
                found = self.assert_quickens(code, given)
                changed += found != code
                for count in range(2):
                    names = {**{name: count for name in given}, **names_by_chance(seed + count)}
                    self.assert_same_steps(code, found, names)
                    assert_tells_alike(self, code, found, names)
        self.assertGreater(changed, 100)


class RefusalsTest(unittest.TestCase):
    def test_codes(self):
        for ask in (surely, quickened):
            assert_refuses_codes(self, ask)
            for given in (("a",), ["a"], None):
                assert_refuses_codes(self, lambda code: ask(code, given=given))

    def test_given(self):
        code = code_of(("load", "a"), "return")
        for ask in (surely, quickened):
            for given in BAD_GIVEN:
                kept = copy.deepcopy(given)
                with self.subTest(given=given), self.assertRaises(BadNames):
                    ask(code, given=given)
                self.assertEqual(kinds_of(given), kinds_of(kept))
            for given in ((), ("a",), ("a", "b"), ("a", "aa", "ab", "b", "zzzz"), tuple("abcdefghijklmnopqrstuvwxyz")):
                ask(code, given=given)
            with self.assertRaises(Unsound):
                ask(UNSOUND["takes"], given=["a"])
            with self.assertRaises(BadCode):
                ask([], given=["a"])

    def test_given_by_its_name_alone(self):
        for ask in (surely, quickened):
            with self.assertRaises(TypeError):
                ask(code_of(("load", "a"), "return"), ("a",))


if __name__ == "__main__":
    unittest.main()
