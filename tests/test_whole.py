"""Promises 0.1, 0.2 and 0.3 over the whole program."""

import copy
import random
import unittest

from codemill.bonds import binds, bond
from codemill.engine import run_units
from codemill.errors import BadCode, BadNames, Unsound
from codemill.flow import blocks, follows, links, must
from codemill.fold import folded, is_folded
from codemill.machine import Walk, run
from codemill.mill import milled
from codemill.names import quickened, surely
from codemill.packing import pack_lines, pack_table, unpack_lines, unpack_table
from codemill.prune import is_pruned, pruned
from codemill.sound import most, shows_bad, shows_sound, states, why
from codemill.swaps import fewest_swaps, is_swapped, swapped
from codemill.texts import code_text, read_code
from codemill.thread import is_threaded, threaded
from codemill.units import Units, assembled, listing
from tests.helper import (
    NO_CODES, THINGS, UNSOUND, assert_tells_alike, code_of, kinds_of, loading_code, made_code, names_by_chance, parts_of, spoilt_code, straight_code,
)

FAULTING = ("load", "clear", "add", "sub", "mul", "div", "rest", "less", "neg", "raise")
GOOD = code_of(("push", 1), "return")

# Every function that takes a code, the other arguments being good ones, or bad ones that must not be told first.
FOR_CODES = {
    "code_text": code_text,
    "why": why,
    "shows_bad": lambda code: shows_bad(code, None),
    "shows_sound": lambda code: shows_sound(code, None),
}
FOR_SOUND_CODES = {
    "run": lambda code: run(code, {}, 10),
    "run, all bad": lambda code: run(code, None, -1),
    "Walk": lambda code: Walk(code, {}),
    "Walk, all bad": lambda code: Walk(code, []),
    "states": states,
    "most": most,
    "follows": follows,
    "blocks": blocks,
    "links": links,
    "must": must,
    "folded": folded,
    "threaded": threaded,
    "pruned": pruned,
    "swapped": swapped,
    "is_folded": is_folded,
    "is_threaded": is_threaded,
    "is_pruned": is_pruned,
    "is_swapped": is_swapped,
    "surely": surely,
    "surely, all bad": lambda code: surely(code, given=["b", "a"]),
    "quickened": quickened,
    "quickened, all bad": lambda code: quickened(code, given=None),
    "milled": milled,
    "milled, all bad": lambda code: milled(code, given=("b", "a")),
    "milled, no way": lambda code: milled(code, fold=False, thread=False, prune=False, swaps=False),
    "assembled": assembled,
    "bond, first": lambda code: bond(code, GOOD),
    "bond, second": lambda code: bond(GOOD, code),
    "binds, first": lambda code: binds(code, GOOD, None),
    "binds, second": lambda code: binds(GOOD, code, None),
}
BETTERINGS = {
    "folded": folded,
    "threaded": threaded,
    "pruned": pruned,
    "swapped": swapped,
    "quickened": quickened,
    "quickened, a given": lambda code: quickened(code, given=("a",)),
    "milled": milled,
    "milled, quick": lambda code: milled(code, given=()),
    "milled, a given": lambda code: milled(code, given=("a",)),
    "milled, some ways": lambda code: milled(code, fold=False, swaps=False),
}


def first_bad_place(code):
    """The first bad place, as code_text tells it; the other functions must tell the same."""
    try:
        code_text(code)
    except BadCode as refusal:
        return ["bad", refusal.at]
    return []


def codes_by_chance(many):
    for seed in range(many):
        yield seed, (made_code, loading_code, straight_code)[seed % 3](seed)


class WayTest(unittest.TestCase):
    """A code goes the whole way from its text to a machine by the table."""

    def packed_and_back(self, units):
        table = unpack_table(pack_table(units.table()))
        lines = unpack_lines(pack_lines(units.lines()))
        found = Units(units.consts(), units.names(), units.units(), table, lines)
        self.assertEqual(found, units)
        return found

    def assert_units_run_alike(self, code, names):
        units = self.packed_and_back(assembled(code))
        self.assertEqual(kinds_of(run_units(units, names, 300)), kinds_of(run(code, names, 300)), code)

    def assert_same_end(self, code, units, names):
        end, told, many = run(code, names, 300)
        found = run_units(units, names, 300)
        if end != ("on",):
            self.assertEqual(kinds_of(found[:2]), kinds_of((end, told)))
            self.assertLessEqual(found[2], many)
        else:
            self.assertEqual(kinds_of(found[1][:len(told)]), kinds_of(told))

    def test_the_whole_way(self):
        for seed, code in codes_by_chance(150):
            text = code_text(code)
            self.assertEqual(kinds_of(read_code(text)), kinds_of(code))
            for given in (None, (), ("a",)):
                better = milled(read_code(text), given=given)
                units = self.packed_and_back(assembled(read_code(code_text(better))))
                for count in range(2):
                    names = {**dict.fromkeys(given or (), 3), **names_by_chance(seed + count)}
                    self.assert_same_end(code, units, names)
                    assert_tells_alike(self, code, better, names)

    def assert_can_be_all(self, code):
        """Check that with what was bettered all can be done that can be done with codes."""
        self.assertEqual(kinds_of(read_code(code_text(code))), kinds_of(code))
        self.assertIs(shows_sound(code, states(code)), True)
        self.assertIsNone(why(code))
        self.assertEqual(most(code), max(state[0] for state in states(code) if state is not None))
        pairs = blocks(code)
        self.assertEqual([pairs[0][0], pairs[-1][1]], [0, len(code)])
        self.assertEqual([len(links(code)), len(must(code)), len(follows(code))], [len(pairs), len(pairs), len(code)])
        self.assertIs(binds(code, code, bond(code, code)), True)
        self.assertEqual(len(surely(code)), len(code))

    def test_up_to_six_betterings_in_any_order(self):
        changed = 0
        for seed, code in codes_by_chance(150):
            chance = random.Random(seed)
            better, names = code, {"a": seed % 7 - 3, **names_by_chance(seed)}
            for word in chance.choices(list(BETTERINGS), k=chance.randint(1, 6)):
                ahead = better
                better = BETTERINGS[word](ahead)
                self.assertLessEqual(len(better), len(ahead))
                self.assertIsNone(why(better), (word, ahead))
                assert_tells_alike(self, ahead, better, names)
            changed += better != code
            assert_tells_alike(self, code, better, names)
            for row in better:
                if row[0] in FAULTING:
                    self.assertIn(kinds_of(row), [kinds_of(own) for own in code])
            self.assert_can_be_all(better)
            self.assert_units_run_alike(better, names)
        self.assertGreater(changed, 100)

    def test_nothing_left_to_do(self):
        for seed, code in codes_by_chance(60):
            best = milled(code, given=("a",))
            for word in ("folded", "threaded", "pruned", "swapped", "quickened", "quickened, a given", "milled", "milled, quick", "milled, a given"):
                self.assertEqual(kinds_of(BETTERINGS[word](best)), kinds_of(best), word)
            for ask in (is_folded, is_threaded, is_pruned, is_swapped):
                self.assertIs(ask(best), True)

    def test_faults_keep_kind_and_line(self):
        faults = 0
        for seed, code in codes_by_chance(200):
            names = names_by_chance(seed)
            end = run(code, names, 400)[0]
            if end[0] == "fault":
                faults += 1
                for better in (folded(code), threaded(code), pruned(code), swapped(code), quickened(code), milled(code, given=())):
                    self.assertEqual(run(better, names, 400)[0], end)
                    self.assertEqual(run_units(assembled(better), names, 400)[0], end)
        self.assertGreater(faults, 30)


class RefusalsTest(unittest.TestCase):
    def test_bad_codes_of_each_function(self):
        spoilt = [spoilt_code(seed) for seed in range(60)]
        spoilt = [code for code in spoilt if first_bad_place(code)]
        more = [[*made_code(seed, 20), ("jump", 98, 1), ("push", 10 ** 10, 1)] for seed in range(5)]
        more += [UNSOUND[word] + [("push", True, True)] for word in UNSOUND]
        for thing in [*NO_CODES, *THINGS, *spoilt[:10], *more, [GOOD[0]] * 151]:
            kept, wished = copy.deepcopy(thing), first_bad_place(thing)
            self.assertTrue(wished)
            for word, ask in {**FOR_CODES, **FOR_SOUND_CODES}.items():
                with self.assertRaises(BadCode, msg=word) as raised:
                    ask(thing)
                self.assertEqual(kinds_of(raised.exception.at), kinds_of(wished[1]), word)
            self.assertEqual(kinds_of(thing), kinds_of(kept))

    def test_unsound_codes_of_each_function(self):
        unsound = [code for code in map(spoilt_code, range(120)) if not first_bad_place(code) and why(code) is not None]
        words = {why(code)[0] for code in unsound}
        self.assertEqual(words, {"takes", "guard", "beneath", "end", "unlike"} & words)
        self.assertGreater(len(words), 2)
        for code in [*UNSOUND.values(), *unsound[:25]]:
            kept = copy.deepcopy(code)
            for word, ask in FOR_SOUND_CODES.items():
                with self.assertRaises(Unsound, msg=word):
                    ask(code)
            for word, ask in FOR_CODES.items():
                ask(code)
            self.assertEqual(kinds_of(code), kinds_of(kept))

    def test_the_first_refusal_that_is_due(self):
        with self.assertRaises(BadNames):
            run(GOOD, {"A": 1}, -1)
        with self.assertRaises(BadNames):
            run_units(assembled(GOOD), {"A": 1}, -1)
        with self.assertRaises(BadCode):
            bond(UNSOUND["takes"], [])
        with self.assertRaises(BadCode):
            binds(UNSOUND["takes"], [], None)


def spoil(told):
    """Change all lists and dicts that were told."""
    if isinstance(told, list):
        for part in told:
            spoil(part)
        told.append("spoilt")
        told[0] = "spoilt"
    elif isinstance(told, tuple):
        for part in told:
            spoil(part)
    elif isinstance(told, dict):
        told.clear()
        told["spoilt"] = "spoilt"


class ToldAgainTest(unittest.TestCase):
    def test_told_twice(self):
        for seed, code in codes_by_chance(40):
            kept, units, order = copy.deepcopy(code), assembled(code), [2, 0, 1, 3]
            paper, names = bond(code, code), names_by_chance(seed)
            parts, lines = pack_table(units.table()), pack_lines(units.lines())
            asks = [
                lambda: run(code, names, 50), lambda: states(code), lambda: follows(code), lambda: blocks(code), lambda: links(code), lambda: must(code),
                lambda: folded(code), lambda: threaded(code), lambda: pruned(code), lambda: swapped(code), lambda: surely(code, given=("a",)),
                lambda: quickened(code), lambda: milled(code), lambda: milled(code, given=("a", "b")), lambda: bond(code, code),
                lambda: milled(code, fold=False, thread=False, prune=False, swaps=False), lambda: listing(units), lambda: pack_table(units.table()),
                lambda: pack_lines(units.lines()), lambda: unpack_table(parts), lambda: unpack_lines(lines), lambda: run_units(units, names, 50),
                lambda: read_code(code_text(code)), lambda: fewest_swaps(order), lambda: why(spoilt_code(3)), lambda: parts_of(assembled(code)),
            ]
            for ask in asks:
                told = ask()
                again = kinds_of(told)
                spoil(told)
                self.assertEqual(kinds_of(ask()), again)
                self.assertEqual(kinds_of(code), kinds_of(kept))
            self.assertIs(binds(code, code, paper), True)

    def test_two_walks_of_one_code(self):
        for seed, code in codes_by_chance(60):
            names = {"a": 2, **names_by_chance(seed)}
            alone = Walk(copy.deepcopy(code), dict(names))
            first, second = Walk(code, names), Walk(code, names)
            spoil(code)
            names.clear()
            chance = random.Random(seed)
            for count in range(60):
                if chance.random() < 0.5:
                    second.step()
                for ask in (Walk.stack, Walk.names, Walk.guards, Walk.told, Walk.places):
                    spoil(ask(second))
                for ask in (Walk.place, Walk.stack, Walk.names, Walk.guards, Walk.told, Walk.places, Walk.end, len):
                    told = ask(first)
                    self.assertEqual(kinds_of(told), kinds_of(ask(alone)))
                    spoil(told)
                self.assertEqual(first.step(), alone.step())
            while second.place() is not None and len(second) < len(first):
                second.step()
            self.assertEqual(kinds_of(second.told()[:len(first.told())]), kinds_of(first.told()))


if __name__ == "__main__":
    unittest.main()
