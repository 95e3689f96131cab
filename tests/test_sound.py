"""Promises 3.1 and 3.2, and of 0.1 to 0.3 what touches them: states, and what shows that a code is sound or not."""

import copy
import random
import unittest

from codemill.errors import Unsound
from codemill.machine import Walk
from codemill.sound import most, shows_bad, shows_sound, states, why
from tests.helper import (
    THINGS, UNSOUND, assert_refuses_codes, code_of, kinds_of, made_code, names_by_chance, spoilt_code,
)

TWO = ("add", "sub", "mul", "div", "rest", "less", "same")
MAY_FAULT = ("load", "clear", "add", "sub", "mul", "div", "rest", "less", "neg", "raise")
JUMPS = ("jump", "iftrue", "iffalse", "ortrue", "orfalse")
WORDS = ("takes", "guard", "beneath", "end")
START = (0, ())


def taken(row):
    """How many values the row takes, or asks for."""
    op, arg, line = row
    if op in ("copy", "swap"):
        return arg
    if op in TWO:
        return 2
    return 1 if op in ("store", "drop", "neg", "not", "tell", "return", "raise") or op in JUMPS[1:] else 0


def nexts_of(code, place, state):
    """What the document says that comes next: pairs of a place and a state."""
    op, arg, line = code[place]
    depth, guards = state
    labels = {row[1]: at for at, row in enumerate(code) if row[0] == "label"}
    if depth < taken(code[place]) or (op == "endtry" and not guards):
        return []
    found = []
    if op in ("push", "load", "quick", "copy"):
        found.append((place + 1, (depth + 1, guards)))
    elif op in ("store", "drop", "tell") + TWO:
        found.append((place + 1, (depth - 1, guards)))
    elif op in ("clear", "swap", "neg", "not", "label"):
        found.append((place + 1, (depth, guards)))
    elif op in ("iftrue", "iffalse"):
        found += [(place + 1, (depth - 1, guards)), (labels[arg], (depth - 1, guards))]
    elif op in ("ortrue", "orfalse"):
        found += [(place + 1, (depth - 1, guards)), (labels[arg], (depth, guards))]
    elif op == "jump":
        found.append((labels[arg], (depth, guards)))
    elif op == "try":
        found.append((place + 1, (depth, guards + ((arg, depth),))))
    elif op == "endtry":
        found.append((place + 1, (depth, guards[:-1])))
    if op in MAY_FAULT and guards:
        found.append((labels[guards[-1][0]], (guards[-1][1] + 1, guards[:-1])))
    return found


def lacks_of(code, place, state):
    """The words for all that the document says that the place lacks."""
    row, (depth, guards) = code[place], state
    words = []
    if depth < taken(row):
        words.append("takes")
    if row[0] == "endtry" and not guards:
        words.append("guard")
    if guards and row[0] != "copy":
        if any(0 <= at < guards[-1][1] for at in range(depth - taken(row), depth)):
            words.append("beneath")
    if any(goal == len(code) for goal, after in nexts_of(code, place, state)):
        words.append("end")
    return words


def all_states(code):
    """The list of states, or None if the code is not sound, by going every way once."""
    found = [None] * len(code)
    found[0] = START
    done = set()
    while True:
        open_places = [place for place, state in enumerate(found) if state is not None and place not in done]
        if not open_places:
            return found
        place = open_places[-1]
        done.add(place)
        if lacks_of(code, place, found[place]):
            return None
        for goal, state in nexts_of(code, place, found[place]):
            if found[goal] not in (None, state):
                return None
            found[goal] = state


def ends_of(code, walk):
    """The set of all states in which the walk comes to its last place."""
    here = {START} if walk[0] == 0 else set()
    for place, goal in zip(walk, walk[1:]):
        here = {state for before in here for there, state in nexts_of(code, place, before) if there == goal}
    return here


def is_shown_bad(code, thing):
    """Whether the thing, a well-formed one, shows that the code is not sound."""
    if thing[0] == "unlike":
        first, second = ends_of(code, thing[1]), ends_of(code, thing[2])
        return thing[1][-1] == thing[2][-1] and bool(first) and bool(second) and len(first | second) > 1
    return any(thing[0] in lacks_of(code, thing[1][-1], state) for state in ends_of(code, thing[1]))


def walks_by_chance(code, chance):
    """Some walks that can come, and some that can't."""
    walks = []
    for count in range(8):
        walk, state = [0], START
        for step in range(chance.randint(0, 14)):
            behind = [pair for pair in nexts_of(code, walk[-1], state) if pair[0] < len(code)]
            if not behind:
                break
            goal, state = chance.choice(behind)
            walk.append(goal)
        walks.append(tuple(walk))
        spoilt = list(walk)
        spoilt[chance.randrange(len(spoilt))] = chance.randrange(len(code))
        walks.append(tuple(spoilt))
    return walks


class StatesTest(unittest.TestCase):
    def assert_states(self, code, found):
        self.assertEqual(kinds_of(states(code)), kinds_of(found))
        self.assertIsNone(why(code))

    def assert_unsound(self, code, word, walk):
        with self.assertRaises(Unsound):
            states(code)
        with self.assertRaises(Unsound):
            most(code)
        self.assertIs(shows_bad(code, (word, walk)), True)
        for other in WORDS:
            if other != word:
                self.assertIs(shows_bad(code, (other, walk)), False, other)

    def test_each_row(self):
        code = code_of(
            ("push", 1), ("load", "a"), ("quick", "a"), ("store", "a"), ("clear", "a"), ("copy", 2), ("swap", 3), "add",
            "not", "neg", "tell", ("label", 1), ("copy", 1), ("iftrue", 2), ("copy", 1), ("orfalse", 3),
            ("jump", 2), ("label", 3), "drop", ("label", 2), ("try", 4), ("push", 2), "raise", ("label", 4), "same", "return",
        )
        self.assert_states(code, [
            (0, ()), (1, ()), (2, ()), (3, ()), (2, ()), (2, ()), (3, ()), (3, ()),
            (2, ()), (2, ()), (2, ()), (1, ()), (1, ()), (2, ()), (1, ()), (2, ()),
            (1, ()), (2, ()), (2, ()), (1, ()), (1, ()), (1, ((4, 1),)), (2, ((4, 1),)), (2, ()), (2, ()), (1, ()),
        ])
        self.assertEqual(most(code), 3)

    def test_what_each_row_takes(self):
        for row, many in (
            ("add", 2), ("sub", 2), ("mul", 2), ("div", 2), ("rest", 2), ("less", 2), ("same", 2), ("neg", 1), ("not", 1),
            ("drop", 1), ("tell", 1), ("return", 1), ("raise", 1), (("store", "a"), 1), (("iftrue", 0), 1),
            (("iffalse", 0), 1), (("ortrue", 0), 1), (("orfalse", 0), 1), (("copy", 1), 1), (("copy", 9), 9),
            (("swap", 2), 2), (("swap", 9), 9),
        ):
            for depth in range(many + 1):
                rows = [("push", 1)] * depth + [row, ("push", 1), "return", ("label", 0), ("push", 1), "return"]
                with self.subTest(row=row, depth=depth):
                    if depth == many:
                        self.assertIsNone(why(code_of(*rows)))
                    else:
                        self.assert_unsound(code_of(*rows), "takes", tuple(range(depth + 1)))

    def test_rows_that_take_nothing(self):
        for row in (("push", 1), ("load", "a"), ("quick", "a"), ("clear", "a"), ("jump", 0), ("try", 0), ("label", 1)):
            self.assertIsNone(why(code_of(row, ("push", 1), "return", ("label", 0), ("push", 1), "return")))

    def test_guard(self):
        self.assert_unsound(code_of("endtry", ("push", 1), "return"), "guard", (0,))
        code = code_of(("try", 0), "endtry", "endtry", ("push", 1), "return", ("label", 0), "return")
        self.assert_unsound(code, "guard", (0, 1, 2))
        # The guard that takes a fault is gone behind it.
        code = code_of(("try", 0), ("load", "a"), "return", ("label", 0), "endtry", "return")
        self.assert_unsound(code, "guard", (0, 1, 3, 4))

    def test_beneath(self):
        for row, many in (
            ("add", 2), ("same", 2), ("neg", 1), ("drop", 1), ("tell", 1), ("return", 1), ("raise", 1), (("store", "a"), 1),
            (("iftrue", 1), 1), (("ortrue", 1), 1), (("orfalse", 1), 1), (("swap", 2), 2), (("swap", 5), 5),
        ):
            for above in range(many + 1):
                rows = [("push", 1)] * 9 + [("try", 0)] + [("push", 1)] * above + [row, ("push", 1), "return"]
                rows += [("label", 0), "return", ("label", 1), ("push", 1), "return"]
                with self.subTest(row=row, above=above):
                    if above == many:
                        self.assertIsNone(why(code_of(*rows)))
                    else:
                        self.assert_unsound(code_of(*rows), "beneath", tuple(range(11 + above)))

    def test_copy_beneath_is_let_by(self):
        for deep in (1, 2, 3):
            rows = [("push", 1), ("push", 2), ("try", 0), ("push", 3), ("copy", deep), "return", ("label", 0), "return"]
            self.assertIsNone(why(code_of(*rows)))
        rows = [("push", 1), ("push", 2), ("try", 0), ("push", 3), ("copy", 4), "return", ("label", 0), "return"]
        self.assert_unsound(code_of(*rows), "takes", (0, 1, 2, 3, 4))

    def test_the_uppermost_guard_alone_counts(self):
        rows = [("push", 1), ("try", 0), ("push", 2), ("try", 1), "endtry", "drop", ("push", 2), "return"]
        rows += [("label", 0), "return", ("label", 1), "return"]
        self.assertIsNone(why(code_of(*rows)))
        rows[4:6] = ["drop", "endtry"]
        self.assert_unsound(code_of(*rows), "beneath", (0, 1, 2, 3, 4))

    def test_end(self):
        self.assert_unsound(code_of(("push", 1)), "end", (0,))
        self.assert_unsound(code_of(("label", 0)), "end", (0,))
        self.assert_unsound(code_of(("label", 0), ("push", 1), ("iftrue", 0)), "end", (0, 1, 2))
        self.assert_unsound(code_of(("jump", 0), ("push", 1), "return", ("label", 0)), "end", (0, 3))
        self.assert_unsound(code_of(("label", 0), ("try", 0)), "end", (0, 1))
        self.assertIsNone(why(code_of(("label", 0), ("jump", 0))))
        self.assertIsNone(why(code_of(("push", 1), "raise")))

    def test_a_walk_goes_on_past_a_jump_that_lacks_the_end(self):
        code = code_of(("jump", 0), ("label", 1), "drop", ("label", 0), ("push", 1), ("iftrue", 1))
        self.assertIs(shows_bad(code, ("takes", (0, 3, 4, 5, 1, 2))), True)
        self.assertIs(shows_bad(code, ("end", (0, 3, 4, 5))), True)

    def test_places_in_two_states(self):
        code = code_of(("quick", "a"), ("iftrue", 0), ("push", 1), ("label", 0), ("push", 1), "return")
        with self.assertRaises(Unsound):
            states(code)
        short, long = (0, 1, 3), (0, 1, 2, 3)
        self.assertIs(shows_bad(code, ("unlike", short, long)), True)
        self.assertIs(shows_bad(code, ("unlike", long, short)), True)
        self.assertIs(shows_bad(code, ("unlike", short, short)), False)
        self.assertIs(shows_bad(code, ("unlike", short + (4,), long + (4,))), True)
        self.assertIs(shows_bad(code, ("unlike", short + (4,), long)), False)

    def test_places_in_two_states_by_their_guards(self):
        code = code_of(("quick", "a"), ("iftrue", 0), ("try", 1), ("label", 0), ("push", 1), "return", ("label", 1), "return")
        self.assertIs(shows_bad(code, ("unlike", (0, 1, 3), (0, 1, 2, 3))), True)
        code = code_of(("quick", "a"), ("iftrue", 0), ("try", 1), ("jump", 2), ("label", 0), ("try", 3), ("label", 2), ("push", 1),
                       "return", ("label", 1), "return", ("label", 3), "return")
        self.assertIs(shows_bad(code, ("unlike", (0, 1, 4, 5, 6), (0, 1, 2, 3, 6))), True)
        with self.assertRaises(Unsound):
            states(code)

    def test_one_walk_that_comes_in_two_states(self):
        code = UNSOUND["unlike"]
        self.assertIs(shows_bad(code, ("unlike", (0, 1, 2), (0, 1, 2))), True)
        self.assertIs(shows_bad(code, ("unlike", (0, 1), (0, 1))), False)
        code = code_of(("try", 0), ("load", "a"), ("label", 0), ("push", 1), "return")
        self.assertIs(shows_bad(code, ("unlike", (0, 1, 2), (0, 1, 2))), True)
        code = code_of(("quick", "a"), ("ortrue", 0), ("label", 0), "drop", ("push", 1), "return")
        self.assertIs(shows_bad(code, ("takes", (0, 1, 2, 3))), True)
        code = code_of(("quick", "a"), ("iftrue", 0), ("label", 0), ("push", 1), "return")
        self.assertIs(shows_bad(code, ("unlike", (0, 1, 2), (0, 1, 2))), False)
        self.assertIsNone(why(code))

    def test_walks_that_come_in_very_many_states(self):
        rows = []
        for mark in range(40):
            rows += [("try", mark), ("load", "a"), ("label", mark)]
        code = code_of(*rows, ("push", 1), "return")
        walk = tuple(range(len(code)))
        self.assertIs(shows_bad(code, ("unlike", walk, walk)), True)
        self.assertIs(shows_bad(code, ("unlike", walk[:1], walk[:1])), False)
        for word in WORDS:
            self.assertIs(shows_bad(code, (word, walk)), False)
        # Of all these states only those without a guard lack one at the end.
        code = code_of(*rows, *["endtry"] * 20, ("push", 1), "return")
        self.assertIs(shows_bad(code, ("guard", tuple(range(140)))), True)
        self.assertIs(shows_bad(code, ("beneath", tuple(range(140)))), False)

    def test_rounds_that_change_the_state(self):
        for rows in (
            [("label", 0), ("push", 1), ("jump", 0)],
            [("label", 0), ("try", 1), ("jump", 0), ("label", 1), "return"],
            [("push", 1), ("push", 1), ("label", 0), "drop", ("jump", 0)],
        ):
            found = why(code_of(*rows))
            self.assertEqual(found[0], "unlike")
            self.assertIs(shows_bad(code_of(*rows), found), True)

    def test_rows_to_which_no_walk_comes(self):
        code = code_of(("push", 1), "return", "drop", "endtry", "add", ("try", 3), ("label", 3), ("copy", 9))
        self.assert_states(code, [(0, ()), (1, ())] + [None] * 6)
        code = code_of(("push", 1), ("jump", 0), "raise", ("label", 0), "return", ("jump", 0))
        self.assert_states(code, [(0, ()), (1, ()), None, (1, ()), (1, ()), None])
        # No row within the guard can fault, so its label isn't come to.
        code = code_of(("try", 0), ("push", 1), ("quick", "a"), ("store", "a"), "return", ("label", 0), "return")
        self.assert_states(code, [(0, ()), (0, ((0, 0),)), (1, ((0, 0),)), (2, ((0, 0),)), (1, ((0, 0),)), None, None])

    def test_which_rows_lead_to_the_guard(self):
        for row, faults in (
            (("load", "a"), True), (("clear", "a"), True), ("add", True), ("sub", True), ("mul", True), ("div", True),
            ("rest", True), ("less", True), ("neg", True), ("raise", True), ("same", False), ("not", False), ("drop", False),
            ("tell", False), ("return", False), (("push", 1), False), (("quick", "a"), False), (("store", "a"), False),
            (("copy", 1), False), (("swap", 2), False), (("jump", 1), False), (("iftrue", 1), False), (("iffalse", 1), False),
            (("label", 1), False), (("try", 1), False), ("endtry", False),
        ):
            rows = [("push", 1), ("try", 0), ("push", 2), ("push", 3), row, ("push", 1), "return"]
            rows += [("label", 0), "return"] + ([] if row == ("label", 1) else [("label", 1), ("push", 1), "return"])
            with self.subTest(row=row):
                self.assertEqual(states(code_of(*rows))[7], (2, ()) if faults else None)

    def test_faults_into_guards_within_guards(self):
        code = code_of(("push", 0), ("try", 1), ("push", 1), ("try", 2), ("push", 2), ("load", "a"), "return",
                       ("label", 2), "neg", "return", ("label", 1), "return")
        outer, inner = ((1, 1),), ((1, 1), (2, 2))
        self.assert_states(code, [
            (0, ()), (1, ()), (1, outer), (2, outer), (2, inner), (3, inner), (4, inner),
            (3, outer), (3, outer), (3, outer), (2, ()), (2, ()),
        ])
        self.assertEqual(most(code), 4)

    def test_most(self):
        self.assertEqual(kinds_of(most(code_of(("label", 0), ("jump", 0)))), kinds_of(0))
        self.assertEqual(most(code_of(("push", 1), "return")), 1)
        self.assertEqual(most(code_of(*[("push", 1)] * 149, "return")), 149)
        self.assertEqual(most(code_of(("push", 1), "return", ("push", 1), ("push", 1), ("push", 1))), 1)
        self.assertEqual(most(code_of(("push", 1), ("push", 1), ("push", 1), "drop", "drop", "return")), 3)

    def test_codes_made_by_chance(self):
        for seed in range(300):
            for code in (made_code(seed, 40), spoilt_code(seed)):
                found = all_states(code)
                with self.subTest(seed=seed):
                    if found is None:
                        with self.assertRaises(Unsound):
                            states(code)
                        with self.assertRaises(Unsound):
                            most(code)
                    else:
                        self.assertEqual(kinds_of(states(code)), kinds_of(found))
                        self.assertEqual(most(code), max(state[0] for state in found if state is not None))

    def test_walks_of_the_machine_are_in_the_states(self):
        for seed in range(150):
            code = made_code(seed)
            found = states(code)
            walk = Walk(code, names_by_chance(seed))
            while len(walk) < 200 and walk.place() is not None:
                self.assertEqual((len(walk.stack()), tuple(walk.guards())), found[walk.place()])
                walk.step()

    def test_refusals(self):
        for ask in (states, most):
            assert_refuses_codes(self, ask)
        assert_refuses_codes(self, why, refuses_unsound=False)
        for thing in THINGS + (("takes", (0,)), [(0, ())]):
            assert_refuses_codes(self, lambda code: shows_bad(code, thing), refuses_unsound=False)
            assert_refuses_codes(self, lambda code: shows_sound(code, thing), refuses_unsound=False)

    def test_nothing_is_changed_and_all_is_told_alike_again(self):
        for seed in range(40):
            code = made_code(seed)
            kept = copy.deepcopy(code)
            first = states(code)
            known = list(first)
            first[:] = ["spoilt"]
            self.assertEqual(states(code), known)
            self.assertEqual(most(code), most(code))
            bad = spoilt_code(seed)
            kept_bad = copy.deepcopy(bad)
            self.assertEqual(kinds_of(why(bad)), kinds_of(why(bad)))
            table = list(known)
            self.assertIs(shows_sound(code, table), True)
            self.assertEqual(table, known)
            self.assertEqual(kinds_of((code, bad)), kinds_of((kept, kept_bad)))


class WhyTest(unittest.TestCase):
    def test_each_sort(self):
        for word, code in UNSOUND.items():
            found = why(code)
            self.assertIs(type(found), tuple)
            self.assertEqual(found[0], word)
            self.assertEqual(len(found), 3 if word == "unlike" else 2)
            self.assertIs(shows_bad(code, found), True)

    def test_codes_made_by_chance(self):
        words = set()
        for seed in range(1500):
            code = spoilt_code(seed, 20)
            found = why(code)
            with self.subTest(seed=seed):
                self.assertEqual(found is None, all_states(code) is not None)
                if found is not None:
                    words.add(found[0])
                    self.assertIs(shows_bad(code, found), True)
                    self.assertIs(is_shown_bad(code, found), True)
        self.assertEqual(sorted(words), sorted(WORDS + ("unlike",)))

    def test_shows_bad_of_any_walks(self):
        shown = 0
        for seed in range(400):
            chance = random.Random(seed)
            code = spoilt_code(seed, 14)
            walks = walks_by_chance(code, chance)
            things = [(word, walk) for walk in walks for word in WORDS]
            things += [("unlike", walk, chance.choice(walks)) for walk in walks for count in range(3)]
            things += [("unlike", walk, walk) for walk in walks]
            for thing in things:
                found = is_shown_bad(code, thing)
                shown += found
                self.assertIs(shows_bad(code, thing), found, (code, thing))
        self.assertGreater(shown, 500)

    def test_nothing_shows_that_a_sound_code_is_bad(self):
        for seed in range(100):
            chance = random.Random(seed)
            code = made_code(seed, 20)
            for walk in walks_by_chance(code, chance):
                for thing in [(word, walk) for word in WORDS] + [("unlike", walk, walk), ("unlike", walk, (0,))]:
                    self.assertIs(shows_bad(code, thing), False, (code, thing))

    def test_walks_that_are_none(self):
        code = code_of(("push", 1), "drop", "drop", ("push", 1), "return")
        self.assertIs(shows_bad(code, ("takes", (0, 1, 2))), True)
        for walk in (
            (), (0,), (0, 1), (1, 2), (2,), (0, 2), (0, 1, 1, 2), (0, 1, 2, 3), (0, 1, 2, 2), (0, 1, 2, 5), (0, 1, -3), (0, 1, 9),
            [0, 1, 2], (False, True, 2), (0, True, 2), (False, 1, 2), (0, 1, None), (0, 1, "2"), (0, 1, (2,)), ((0, 1, 2),),
            (0, [1], 2), (0, 1, 2, None), (0, 1, 2, True), "012", {0: 0, 1: 1, 2: 2}, 0, None, True, (-5, -4, -3), (0, -4, 2),
        ):
            with self.subTest(walk=walk):
                self.assertIs(shows_bad(code, ("takes", walk)), False)
                self.assertIs(shows_bad(code, ("unlike", walk, (0, 1, 2))), False)
                self.assertIs(shows_bad(code, ("unlike", (0, 1, 2), walk)), False)

    def test_things_that_show_nothing(self):
        code = code_of(("push", 1), "drop", "drop", ("push", 1), "return")
        walk = (0, 1, 2)
        for thing in THINGS + (
            ["takes", walk], ("takes",), ("takes", walk, walk), ("takes", walk, None), (walk, "takes"), (None, walk),
            ("Takes", walk), ("take", walk), ("", walk), (True, walk), (["takes"], walk), (("takes",), walk), ({}, walk),
            ("guard", walk), ("beneath", walk), ("end", walk), ("unlike", walk), ("unlike", walk, walk), ("unlike",),
            ("unlike", walk, walk, walk), ["unlike", walk, walk], {"takes": walk}, walk, ("lacks", walk), (walk,), (walk, walk),
            ([], walk, walk), (None, walk, walk), ("takes", "end"), ("takes", walk, "takes", walk),
        ):
            with self.subTest(thing=thing):
                kept = copy.deepcopy(thing)
                self.assertIs(shows_bad(code, thing), False)
                self.assertEqual(kinds_of(thing), kinds_of(kept))
        for spoilt in ([list(walk) for walk in ((0, 1, 2), (0, 1, 2))], (list((0, 1, 2)), (0, 1, 2))):
            self.assertIs(shows_bad(UNSOUND["unlike"], ("unlike", *spoilt)), False)

    def test_a_walk_ends_where_a_row_can_not_be_done(self):
        code = code_of("drop", "endtry", ("push", 1))
        self.assertIs(shows_bad(code, ("takes", (0,))), True)
        self.assertIs(shows_bad(code, ("guard", (0, 1))), False)
        self.assertIs(shows_bad(code, ("end", (0, 1, 2))), False)
        code = code_of("endtry", ("push", 1))
        self.assertIs(shows_bad(code, ("end", (0, 1))), False)

    def test_what_can_not_be_done_lacks_no_end(self):
        for row, word in (("drop", "takes"), ("add", "takes"), (("copy", 1), "takes"), ("endtry", "guard")):
            self.assertEqual(why(code_of(row)), (word, (0,)))
            self.assertIs(shows_bad(code_of(row), ("end", (0,))), False)

    def test_no_walk_goes_behind_the_last_row(self):
        code = code_of(("push", 1))
        for thing in (("end", (0, 1)), ("takes", (0, 1)), ("unlike", (0, 1), (0, 1)), ("unlike", (0, 1), (0,)), ("end", (0, 1, 2))):
            self.assertIs(shows_bad(code, thing), False)

    def test_both_walks_must_come(self):
        code = UNSOUND["unlike"]
        two_states, can_not_come = (0, 1, 2), (0, 2)
        self.assertIs(shows_bad(code, ("unlike", two_states, can_not_come)), False)
        self.assertIs(shows_bad(code, ("unlike", can_not_come, two_states)), False)
        self.assertIs(shows_bad(code, ("unlike", can_not_come, can_not_come)), False)
        for word in WORDS + ("", "Unlike", None, True, (), []):
            self.assertIs(shows_bad(code, (word, two_states, two_states)), False)

    def test_walks_may_be_long(self):
        code = code_of(("label", 0), ("push", 1), ("iftrue", 0), "drop", ("push", 1), "return")
        walk = (0, 1, 2) * 2000
        self.assertIs(shows_bad(code, ("takes", walk + (3,))), True)
        self.assertIs(shows_bad(code, ("takes", walk + (0,))), False)


class ShowsSoundTest(unittest.TestCase):
    def test_the_told_states(self):
        for seed in range(200):
            code = made_code(seed)
            self.assertIs(shows_sound(code, states(code)), True)

    def test_tables_spoilt_at_any_place(self):
        for seed in range(40):
            code = made_code(seed, 25)
            table = states(code)
            for place, state in enumerate(table):
                if state is None:
                    continue
                depth, guards = state
                others = [None, (depth + 1, guards), (depth - 1, guards), (depth, guards + ((0, 0),)), (depth, guards[1:] or ((0, 0),))]
                others += [[depth, guards], (depth, list(guards)), (depth,), (depth, guards, ()), depth, guards, (), "", True]
                others += [(depth, tuple(list(guard) for guard in guards) or [])]
                if depth in (0, 1):
                    others.append((bool(depth), guards))
                if guards and guards[0][1] in (0, 1):
                    others.append((depth, ((guards[0][0], bool(guards[0][1])),) + guards[1:]))
                for other in others:
                    spoilt = list(table)
                    spoilt[place] = other
                    with self.subTest(seed=seed, place=place, other=other):
                        self.assertIs(shows_sound(code, spoilt), False)

    def test_tables_too_long_or_too_short(self):
        code = code_of(("push", 1), "return")
        table = states(code)
        self.assertIs(shows_sound(code, table), True)
        for other in ([], table[:1], table + [None], table + table, [None] + table, tuple(table), dict(enumerate(table))):
            self.assertIs(shows_sound(code, other), False)

    def test_any_other_things(self):
        for code in (code_of(("push", 1), "return"), code_of(("label", 0), ("jump", 0)), code_of(("jump", 0), ("label", 0), ("jump", 0))):
            for thing in THINGS + ([None, None], [None] * 3, [(0, ()), None], [0, 1], [(0, ()), 1], [(0, ()), "a"]):
                kept = copy.deepcopy(thing)
                self.assertIs(shows_sound(code, thing), False, thing)
                self.assertEqual(kinds_of(thing), kinds_of(kept))

    def test_states_where_no_walk_comes(self):
        code = code_of(("push", 1), "return", ("label", 0), ("push", 2), "drop", ("jump", 0))
        begin = [(0, ()), (1, ())]
        for depth in (0, 1, 7, 999999999999999):
            for guards in ((), ((0, 0),), ((0, depth), (0, 0)), ((5, 0),)):
                fitting = [(depth, guards), (depth, guards), (depth + 1, guards), (depth, guards)]
                self.assertIs(shows_sound(code, begin + fitting), True)
                for place in range(4):
                    spoilt = list(fitting)
                    spoilt[place] = (depth + 2, guards)
                    self.assertIs(shows_sound(code, begin + spoilt), False)
        self.assertIs(shows_sound(code, begin + [None] * 4), True)
        self.assertIs(shows_sound(code, begin + [None, None, None, (3, ())]), False)
        self.assertIs(shows_sound(code, begin + [(-1, ()), (-1, ()), (0, ()), (-1, ())]), False)
        for guards in (((100, 0),), ((-1, 0),), ((True, 0),), ((0, True),), ((0, -1),), ((0,),), ((0, 0, 0),), ([0, 0],), (0, 0),
                       ((None, 0),), (("a", 0),), ((0, None),), [(0, 0)], [], None, "", (None,), ({},)):
            fitting = [(1, guards), (1, guards), (2, guards), (1, guards)]
            self.assertIs(shows_sound(code, begin + fitting), False, guards)
        for guards in (((99, 0),), ((0, 1),), ((0, 0), (0, 0)), ((0, 0), (99, 0))):
            fitting = [(1, guards), (1, guards), (2, guards), (1, guards)]
            self.assertIs(shows_sound(code, begin + fitting), True, guards)
        self.assertIs(shows_sound(code, begin + [(1, ((0, 2),)), (1, ((0, 2),)), (2, ((0, 2),)), (1, ((0, 2),))]), False)

    def test_states_that_lack_where_no_walk_comes(self):
        begin = [(0, ()), (1, ())]
        for rows, table, found in (
            (["drop", ("label", 0), ("jump", 0)], [(1, ()), (0, ()), (0, ())], True),
            (["drop", ("label", 0), ("jump", 0)], [(0, ()), (0, ()), (0, ())], False),
            (["drop", ("label", 0), ("jump", 0)], [None, (0, ()), (0, ())], True),
            (["drop", ("label", 0), ("jump", 0)], [(2, ((0, 1),)), (1, ((0, 1),)), (1, ((0, 1),))], True),
            (["drop", ("label", 0), ("jump", 0)], [(1, ((0, 1),)), (0, ((0, 1),)), (0, ((0, 1),))], False),
            (["endtry", ("label", 0), ("jump", 0)], [(0, ()), (0, ()), (0, ())], False),
            (["endtry", ("label", 0), ("jump", 0)], [(0, ((0, 0),)), (0, ()), (0, ())], True),
            ([("push", 1)], [(0, ())], False),
            ([("push", 1)], [None], True),
            (["raise"], [(1, ())], True),
            (["raise"], [(0, ())], False),
            ([("load", "a"), "return", ("label", 5), "return"], [(0, ((5, 3),)), (1, ((5, 3),)), (4, ()), (4, ())], False),
            ([("load", "a"), "return", ("label", 5), "return"], [(3, ((5, 3),)), (4, ((5, 3),)), (4, ()), (4, ())], True),
            ([("load", "a"), "return", ("label", 5), "return"], [(3, ((5, 3),)), (4, ((5, 3),)), None, None], False),
            # A fault finds no label of the guard's mark, so what comes next stands nowhere.
            ([("load", "a"), "return"], [(0, ((7, 0),)), (1, ((7, 0),))], False),
            ([("push", "a"), "return"], [(0, ((7, 0),)), (1, ((7, 0),))], True),
        ):
            code = code_of(("push", 1), "return", *rows)
            with self.subTest(rows=rows, table=table):
                self.assertIs(shows_sound(code, begin + table), found)

    def test_no_table_shows_that_an_unsound_code_is_sound(self):
        for word, code in UNSOUND.items():
            for state in (None, (0, ()), (1, ()), (2, ())):
                self.assertIs(shows_sound(code, [(0, ())] + [state] * (len(code) - 1)), False, word)
        code = UNSOUND["beneath"]
        guards = ((0, 1),)
        table = [(0, ()), (1, ()), (1, guards), (0, guards), (1, guards), (2, ()), (2, ())]
        self.assertIs(shows_sound(code, table), False)


if __name__ == "__main__":
    unittest.main()
