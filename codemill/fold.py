"""Folding: groups of rows whose outcome is known are made fewer, or plainer."""

from codemill.codes import is_pushed
from codemill.sound import states
from codemill.values import is_true, made_of_one, made_of_two

OTHER_WAY = {"iftrue": "iffalse", "iffalse": "iftrue"}


def are_pushes(rows):
    """Whether all the rows are pushes."""
    return all([row[0] == "push" for row in rows])


def pushes_ahead(rows, at, many):
    """Whether the so many rows directly ahead of the place are pushes."""
    return at >= many and are_pushes(rows[at - many:at])


# Each fold looks for a group that ends at the place, and tells how many rows it has, and the rows that do the same;
# None, if no such group ends there.


def fold_drop(rows, at):
    """What is pushed and dropped at once needn't be."""
    if at >= 1 and rows[at - 1][0] in ("push", "copy", "quick"):
        return (2, [])
    return None


def pushed_instead(many, made, line):
    """The fold of so many rows to a push of what is made; none, if that is a fault, or can't stand in a push."""
    kind, value = made
    if kind is None and is_pushed(value):
        return (many, [("push", value, line)])
    return None


def fold_one(rows, at):
    """What neg and not make of a known value is known."""
    if not pushes_ahead(rows, at, 1):
        return None
    op, line = rows[at][0], rows[at][2]
    return pushed_instead(2, made_of_one(op, rows[at - 1][1]), line)


def fold_two(rows, at):
    """What is made of two known values is known."""
    if not pushes_ahead(rows, at, 2):
        return None
    op, line = rows[at][0], rows[at][2]
    return pushed_instead(3, made_of_two(op, rows[at - 2][1], rows[at - 1][1]), line)


def fold_copy(rows, at):
    """A copy of a known value is pushed itself."""
    if rows[at][1] != 1 or not pushes_ahead(rows, at, 1):
        return None
    pushed = rows[at - 1]
    return (2, [pushed, ("push", pushed[1], rows[at][2])])


def fold_swap(rows, at):
    """Two known values are pushed the other way round."""
    if rows[at][1] != 2 or not pushes_ahead(rows, at, 2):
        return None
    return (3, [rows[at - 1], rows[at - 2]])


def fold_if(rows, at):
    """Behind a not the other way is gone; a known value goes always, or never."""
    op, mark, line = rows[at]
    if at >= 1 and rows[at - 1][0] == "not":
        return (2, [(OTHER_WAY[op], mark, line)])
    if not pushes_ahead(rows, at, 1):
        return None
    if is_true(rows[at - 1][1]) == (op == "iftrue"):
        return (2, [("jump", mark, line)])
    return (2, [])


def fold_or(rows, at):
    """A known value goes always, and is left, or is always taken."""
    op, mark, line = rows[at]
    if not pushes_ahead(rows, at, 1):
        return None
    pushed = rows[at - 1]
    if is_true(pushed[1]) == (op == "ortrue"):
        return (2, [pushed, ("jump", mark, line)])
    return (2, [])


FOLDS = {
    "drop": fold_drop,
    "neg": fold_one,
    "not": fold_one,
    "copy": fold_copy,
    "swap": fold_swap,
    "add": fold_two,
    "sub": fold_two,
    "mul": fold_two,
    "div": fold_two,
    "rest": fold_two,
    "less": fold_two,
    "same": fold_two,
    "iftrue": fold_if,
    "iffalse": fold_if,
    "ortrue": fold_or,
    "orfalse": fold_or,
}


def fold_at(rows, at):
    """The fold of the group that ends at the place, None if none does."""
    op = rows[at][0]
    if op not in FOLDS:
        return None
    fold = FOLDS[op]
    return fold(rows, at)


def with_row(rows, row):
    """The rows, in which no group stands, with this one behind, and all folded that then can be."""
    found = rows + [row]
    fold = fold_at(found, len(found) - 1)
    while fold is not None:
        many, instead = fold
        found = found[:-many] + instead
        # Two rows that are put instead begin with a push, and no group ends with one: the last row alone is asked.
        fold = fold_at(found, len(found) - 1) if instead else None
    return found


def folded(code):
    """The code with all groups folded; BadCode, Unsound."""
    states(code)
    found = []
    for row in code:
        found = with_row(found, row)
    return found


def is_folded(code):
    """Whether no group that can be folded stands in the code; BadCode, Unsound."""
    states(code)
    return all([fold_at(code, at) is None for at in range(len(code))])
