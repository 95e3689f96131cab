"""What several test files ask for: rows of every sort, and things of every kind that may be handed in."""

NAME_OPS = ("load", "quick", "store", "clear")
JUMP_OPS = ("jump", "iftrue", "iffalse", "ortrue", "orfalse", "try")
BARE_OPS = (
    "add", "sub", "mul", "div", "rest", "less", "same", "neg", "not",
    "drop", "tell", "return", "raise", "endtry",
)
PUSHED = (None, True, False, 0, 1, -1, 7, 10 ** 9, -10 ** 9, "a", "Z", "Unset", "abcdEFGH", "none", "true")

# Any thing that 0.3 lets be handed in, none of which is a code, a row or a written code.
THINGS = (
    None, True, False, 0, 1, -1, 999999999999999, -999999999999999,
    "", "a", "push", "1 add", "add\n", "\n", "\u00e9", "\u0661 add\n",
    [], [None], [True], [0], ["a"], [[]], [()], [{}], [["add", None, 1]], ["add", None, 1],
    (), (None,), (1, 2, 3), ("add", None, 1), ((("add", None, 1),),), (("add", None, 1),),
    {}, {"a": 1}, {0: ("add", None, 1)}, {None: None}, {(1, "a"): [{}]}, [{"a": [(None, True)]}],
)


def every_row():
    """One row at least of each op and each sort of arg, marks 0, 7 and 99 having their labels."""
    rows = [("push", value, 3) for value in PUSHED]
    rows += [(op, name, 0) for op in NAME_OPS for name in ("a", "none", "xyzz")]
    rows += [("copy", many, 9999) for many in range(1, 10)]
    rows += [("swap", many, 10) for many in range(2, 10)]
    rows += [(op, mark, 100) for op in JUMP_OPS for mark in (0, 7, 99)]
    rows += [("label", mark, 1) for mark in (0, 7, 99)]
    rows += [(op, None, 12) for op in BARE_OPS]
    return rows


def kinds_of(thing):
    """The thing with the kind of all within it, so that 1 and True, and lists and tuples, differ."""
    if isinstance(thing, (list, tuple)):
        return (type(thing), [kinds_of(part) for part in thing])
    if isinstance(thing, dict):
        return (dict, [(kinds_of(key), kinds_of(part)) for key, part in thing.items()])
    return (type(thing), thing)
