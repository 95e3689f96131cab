"""What several test files ask for: rows of every sort, things of every kind that may be handed in, sound codes made
by chance, always the same ones for a seed."""

import copy
import random

from codemill.errors import BadCode, Unsound
from codemill.machine import run
from codemill.sound import why

NAME_OPS = ("load", "quick", "store", "clear")
JUMP_OPS = ("jump", "iftrue", "iffalse", "ortrue", "orfalse", "try")
BARE_OPS = (
    "add", "sub", "mul", "div", "rest", "less", "same", "neg", "not",
    "drop", "tell", "return", "raise", "endtry",
)
PUSHED = (None, True, False, 0, 1, -1, 7, 10 ** 9, -10 ** 9, "a", "Z", "Unset", "abcdEFGH", "none", "true")

# Any thing that 0.3 lets be handed in, none of which is a code, a row or a written code.
THINGS = (
    None, True, False, 0, 1, -1, 999999999999999, -999999999999999,
    "", "a", "push", "1 add", "add\n", "\n", "\u00e9", "\u0661 add\n",
    [], [None], [True], [0], ["a"], [[]], [()], [{}], [["add", None, 1]], ["add", None, 1],
    (), (None,), (1, 2, 3), ("add", None, 1), ((("add", None, 1),),), (("add", None, 1),),
    {}, {"a": 1}, {0: ("add", None, 1)}, {None: None}, {(1, "a"): [{}]}, [{"a": [(None, True)]}],
)


def every_row():
    """One row at least of each op and each sort of arg, marks 0, 7 and 99 having their labels."""
    rows = [("push", value, 3) for value in PUSHED]
    rows += [(op, name, 0) for op in NAME_OPS for name in ("a", "none", "xyzz")]
    rows += [("copy", many, 9999) for many in range(1, 10)]
    rows += [("swap", many, 10) for many in range(2, 10)]
    rows += [(op, mark, 100) for op in JUMP_OPS for mark in (0, 7, 99)]
    rows += [("label", mark, 1) for mark in (0, 7, 99)]
    rows += [(op, None, 12) for op in BARE_OPS]
    return rows


def kinds_of(thing):
    """The thing with the kind of all within it, so that 1 and True, and lists and tuples, differ."""
    if isinstance(thing, (list, tuple)):
        return (type(thing), [kinds_of(part) for part in thing])
    if isinstance(thing, dict):
        return (dict, [(kinds_of(key), kinds_of(part)) for key, part in thing.items()])
    return (type(thing), thing)


def code_of(*parts):
    """A code of ops, or pairs of an op and its arg; a row's line is 100 and its place."""
    pairs = [part if isinstance(part, tuple) else (part, None) for part in parts]
    return [(op, arg, 100 + place) for place, (op, arg) in enumerate(pairs)]


# Codes that are not sound, one for each word, and things that are no codes though they look much like one.
UNSOUND = {
    "takes": code_of("drop", ("push", 1), "return"),
    "guard": code_of("endtry", ("push", 1), "return"),
    "beneath": code_of(("push", 1), ("try", 0), "drop", ("push", 1), "return", ("label", 0), "return"),
    "end": code_of(("push", 1)),
    "unlike": code_of(("quick", "a"), ("ortrue", 0), ("label", 0), ("push", 1), "return"),
}
NO_CODES = (
    None, True, 0, "code", [], (), {}, [None], [("push", 1, 1), ("return", None)], (("push", 1, 1), ("return", None, 1)),
    [("push", 1, 1), ("jump", 0, 1)], [("drop", None, True)], [["push", 1, 1], ["return", None, 1]],
)

# What is no rising tuple of names.
BAD_GIVEN = (
    None, True, 0, "", "a", "ab", [], ["a"], ["a", "b"], {}, {"a": 1}, ("a", "a"), ("b", "a"), ("a", "b", "b"), ("a", "c", "b"),
    ("",), ("A",), ("abcde",), ("a1",), (1,), (None,), (True,), ("a", None), ("a", 1), (("a",),), (["a"],), ("a", "B"), ("\u00e9",),
    ("ab", "a"), ("a", ""), ({},), ("a ",),
)


def assert_refuses_codes(case, ask, refuses_unsound=True):
    """Check that ask(code) refuses what is no code, then, ahead of all else, what is not sound."""
    for thing in NO_CODES + THINGS:
        kept = copy.deepcopy(thing)
        with case.subTest(thing=thing), case.assertRaises(BadCode):
            ask(thing)
        case.assertEqual(kinds_of(thing), kinds_of(kept))
    bad_and_unsound = UNSOUND["takes"] + [("jump", 7, 1)]
    with case.assertRaises(BadCode) as raised:
        ask(bad_and_unsound)
    case.assertEqual(raised.exception.at, 3)
    if refuses_unsound:
        for word, code in UNSOUND.items():
            kept = copy.deepcopy(code)
            with case.subTest(word=word), case.assertRaises(Unsound):
                ask(code)
            case.assertEqual(code, kept)


class Maker:
    """Makes a sound code by chance: what it puts in keeps count of the depth, and all ways that meet agree."""

    def __init__(self, seed, most=60):
        self.chance = random.Random(seed)
        self.most = most
        self.rows = []
        self.marks = list(range(100))
        self.chance.shuffle(self.marks)
        self.depth = 0

    def put(self, op, arg=None):
        self.rows.append((op, arg, self.chance.randrange(10000)))

    def name(self):
        return self.chance.choice(("a", "b", "cd"))

    def value(self):
        numbers = (0, 1, 2, 3, -1, -3, 7, 10 ** 9, -10 ** 9)
        return self.chance.choice(numbers * 5 + (None, True, False, "Odd", "Type"))

    def room(self):
        return len(self.rows) < self.most and len(self.marks) > 4

    def push(self):
        self.put(*self.chance.choice((("push", self.value()), ("push", self.value()), ("quick", self.name()))))
        self.depth += 1

    def level(self, depth):
        """Rows that bring the stack to the depth."""
        while self.depth > depth:
            self.put("drop")
            self.depth -= 1
        while self.depth < depth:
            self.push()

    def plain(self, floor):
        """A row that takes nothing beneath the floor."""
        free = self.depth - floor
        chosen = [("push", self.value(), 0, 1)] * 9 + [("quick", self.name(), 0, 1)]
        if floor or self.chance.random() < 0.2:
            chosen += [("load", self.name(), 0, 1), ("clear", self.name(), 0, 0)]
        if self.depth:
            chosen.append(("copy", self.chance.randint(1, min(9, self.depth)), 0, 1))
        if free:
            chosen += [("tell", None, 1, 0)] * 3 + [("drop", None, 1, 0), ("store", self.name(), 1, 0)]
            chosen += [("neg", None, 1, 1), ("not", None, 1, 1)]
        if free > 1:
            chosen.append(("swap", self.chance.randint(2, min(9, free)), 0, 0))
            chosen += [(op, None, 2, 1) for op in BARE_OPS[:7]]
        op, arg, taken, given = self.chance.choice(chosen)
        self.put(op, arg)
        self.depth += given - taken

    def choice(self, floor):
        """A conditional jump over some rows."""
        self.push()
        mark = self.marks.pop()
        op = self.chance.choice(("iftrue", "iffalse", "ortrue", "orfalse"))
        self.put(op, mark)
        leaves = op in ("ortrue", "orfalse")
        depth = self.depth if leaves else self.depth - 1
        self.depth -= 1
        self.some(floor)
        self.level(depth)
        if self.chance.random() < 0.3:
            self.push()
            self.put(self.chance.choice(("iftrue", "iffalse")), mark)
            self.depth -= 1
            self.some(floor)
            self.level(depth)
        self.put("label", mark)

    def round(self, floor):
        """Rows done over and over, mostly a bounded number of times."""
        again, depth, name = self.marks.pop(), self.depth, self.name()
        self.put("push", self.chance.randint(1, 4))
        self.put("store", name)
        if self.chance.random() < 0.3:
            self.push()
            self.put(self.chance.choice(("iftrue", "iffalse")), again)
            self.depth -= 1
        self.put("label", again)
        self.some(floor)
        self.level(depth)
        for op, arg in (("quick", name), ("push", 1), ("sub", None), ("copy", 1), ("store", name)):
            self.put(op, arg)
        self.put(self.chance.choice(("iftrue", "iftrue", "iffalse")), again)

    def guarded(self, floor):
        """Rows within a guard, and what is done with the fault."""
        goal, behind, depth = self.marks.pop(), self.marks.pop(), self.depth
        self.put("try", goal)
        self.some(depth)
        if self.chance.random() < 0.3:
            self.push()
            self.put("raise")
            self.depth = depth
        else:
            self.level(depth)
            self.put("endtry")
            self.push()
            self.put("jump", behind)
        self.put("label", goal)
        self.depth = depth + 1
        self.some(depth)
        self.level(depth + 1)
        self.put("label", behind)

    def leap(self, floor):
        """Jumps over rows to which no walk comes, or that jump on."""
        first, second, third = self.marks.pop(), self.marks.pop(), self.marks.pop()
        self.put("jump", first)
        self.junk()
        self.put("label", third)
        self.put("jump", second)
        self.put("label", first)
        if self.chance.random() < 0.5:
            self.put("jump", third)
        self.put("label", second)

    def junk(self):
        """Rows of any sort to which no walk comes."""
        for row in self.chance.sample(every_row(), self.chance.randint(0, 4)):
            if row[0] not in JUMP_OPS + ("label",):
                self.put(row[0], row[1])

    def ending(self, floor):
        """A choice that ends the run, or not."""
        mark = self.marks.pop()
        self.push()
        self.put("iffalse", mark)
        if self.depth == floor + 1:
            self.put("push", self.value())
        self.put(self.chance.choice(("return", "raise", "return")))
        self.depth -= 1
        self.junk()
        self.put("label", mark)

    def some(self, floor):
        """Some rows that take nothing beneath the floor."""
        for count in range(self.chance.randint(0, 6)):
            if not self.room():
                return
            if self.chance.random() < 0.7:
                self.plain(floor)
            else:
                self.chance.choice((self.choice, self.round, self.guarded, self.leap, self.ending))(floor)

    def made(self):
        while self.room() and self.chance.random() < 0.95:
            self.some(0)
        self.level(max(1, self.depth))
        self.put(self.chance.choice(("return", "return", "raise")))
        return self.rows


def made_code(seed, most=60):
    """A sound code made by chance."""
    return Maker(seed, most).made()


def loading_code(seed, most=60):
    """A sound code made by chance, with more loads."""
    chance = random.Random(seed)
    return [("load", *row[1:]) if row[0] == "quick" and chance.random() < 0.7 else row for row in made_code(seed, most)]


def straight_code(seed, most=40):
    """A sound code made by chance without label, try and endtry, in which much can be bettered."""
    maker = Maker(seed, most)
    chance = maker.chance
    for count in range(chance.randint(0, most)):
        kind = chance.random()
        if kind < 0.25:
            maker.put(chance.choice(("load", "quick")), maker.name())
            maker.depth += 1
        elif kind < 0.3 and maker.depth > 1:
            for swap in range(chance.randint(2, 5)):
                maker.put("swap", chance.randint(2, min(9, maker.depth)))
        else:
            maker.plain(0)
    if not maker.depth:
        maker.push()
    maker.put(chance.choice(("return", "return", "raise")))
    maker.junk()
    return [row for row in maker.rows if row[0] != "endtry"]


def with_other_marks(code, seed):
    """The code with other marks in the place of its marks."""
    marks = list(range(100))
    random.Random(seed).shuffle(marks)
    return [(op, marks[arg] if op in JUMP_OPS + ("label",) else arg, line) for op, arg, line in code]


def parts_of(units):
    """The parts of which the units can be made anew."""
    return (units.consts(), units.names(), units.units(), units.table(), units.lines())


def spoilt_code(seed, most=30):
    """A code, most often one that is not sound, that comes of a sound one by a few changes."""
    chance = random.Random(seed)
    rows = made_code(seed, most)
    marks = [row[1] for row in rows if row[0] == "label"]
    for count in range(chance.randint(1, 3)):
        at = chance.randrange(len(rows))
        free = [row for row in every_row() if row[0] not in JUMP_OPS + ("label",)]
        free += [(op, mark, 5) for op in JUMP_OPS for mark in marks[:3]] * 3
        deed = chance.randrange(3)
        if deed == 0 and rows[at][0] != "label" and len(rows) > 1:
            del rows[at]
        elif deed == 1:
            rows.insert(at, chance.choice(free))
        elif rows[at][0] != "label":
            rows[at] = chance.choice(free)
    return rows


def names_by_chance(seed):
    """Names with values, such as runs are given."""
    chance = random.Random(seed)
    values = (None, True, False, 0, 1, 5, -2, 10 ** 18, -10 ** 18, "Kind")
    return {name: chance.choice(values) for name in ("a", "b", "cd") if chance.random() < 0.5}


def assert_tells_alike(case, code, better, names, steps=400):
    """Check that the better code tells what the code tells, and ends as it does, in no more steps."""
    end, told, many = run(code, names, steps)
    found = run(better, names, steps)
    if end == ("on",):
        # The better one may be further by now; what was told so far must have been told by it.
        case.assertEqual(kinds_of(found[1][:len(told)]), kinds_of(told), (code, better, names))
        if found[0] != ("on",):
            case.assertEqual(kinds_of(run(code, names, 100000)[:2]), kinds_of(found[:2]), (code, better, names))
    else:
        case.assertEqual(kinds_of(found[:2]), kinds_of((end, told)), (code, better, names))
        case.assertLessEqual(found[2], many, (code, better, names))


def assert_betters(case, better, is_better, code, is_left):
    """Check what is promised of every bettering, of this code; is_left(code) tells whether anything is left to do.

    Gives back the better code.
    """
    kept = copy.deepcopy(code)
    found = better(code)
    case.assertEqual(kinds_of(code), kinds_of(kept))
    case.assertIs(type(found), list)
    case.assertIsNone(why(found), code)
    case.assertLessEqual(len(found), len(code))
    case.assertIs(is_better(code), not is_left(code), code)
    case.assertIs(is_better(found), True, (code, found))
    case.assertFalse(is_left(found), (code, found))
    case.assertEqual(kinds_of(better(found)), kinds_of(found))
    if not is_left(code):
        case.assertEqual(kinds_of(found), kinds_of(code))
    for seed in range(4):
        assert_tells_alike(case, code, found, names_by_chance(seed))
    told = list(found)
    found.append("spoilt")
    found[0] = "spoilt"
    case.assertEqual(kinds_of(better(code)), kinds_of(told))
    case.assertEqual(kinds_of(code), kinds_of(kept))
    return told


def is_subsequence(rows, others):
    """Whether the rows stand in the others, in their order."""
    rest = iter(others)
    return all(any(kinds_of(row) == kinds_of(other) for other in rest) for row in rows)
