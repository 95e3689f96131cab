"""Threading: jumps to rows that jump on go there at once."""

from codemill.codes import label_places
from codemill.sound import JUMPING, states

# By which rows at its mark, besides jumps, a row that leaves its value is led on: the value leads the same way there.
LED_ON = {"ortrue": ("ortrue", "iftrue"), "orfalse": ("orfalse", "iffalse")}


def row_at(code, labels, mark):
    """The first row behind the mark's label that is no label, None if there is none."""
    for row in code[labels[mark]:]:
        if row[0] != "label":
            return row
    return None


def one_step(code, labels, way):
    """The op and the mark to which a row with these can be threaded in one step, None if it can't be."""
    op, mark = way
    row = row_at(code, labels, mark)
    if row is None:
        return None
    if row[0] == "jump":
        return (op, row[1])
    if row[0] in LED_ON.get(op, ()):
        return (row[0], row[1])
    return None


def last_step(code, labels, way):
    """The op and the mark to which all steps lead; the first ones, if the steps come round."""
    passed = [way]
    further = one_step(code, labels, way)
    while further is not None:
        if further in passed:
            return way
        passed.append(further)
        further = one_step(code, labels, further)
    return passed[-1]


def threaded_row(code, labels, row):
    """The row, threaded if it can be."""
    if row[0] not in JUMPING:
        return row
    op, mark = last_step(code, labels, (row[0], row[1]))
    return (op, mark, row[2])


def threaded(code):
    """The code with all rows threaded that can be; BadCode, Unsound."""
    states(code)
    labels = label_places(code)
    return [threaded_row(code, labels, row) for row in code]


def is_threaded(code):
    """Whether no row of the code can be threaded; BadCode, Unsound."""
    return threaded(code) == code
