"""Pruning: needless rows are taken out."""

from codemill.codes import arg_sort
from codemill.sound import states


def come_to(code):
    """The rows to which a walk comes, and all labels."""
    return [row for row, state in zip(code, states(code)) if state is not None or row[0] == "label"]


def is_next(mark, rows):
    """Whether the mark's label stands at the beginning of the rows, with labels alone ahead of it."""
    for row in rows:
        if row[0] != "label":
            return False
        if row[1] == mark:
            return True
    return False


def without_idle_jumps(rows):
    """The rows without those that jump to where they would come anyhow; a drop where one takes a value."""
    kept = []
    # From the last one on, as a row that is taken out may have stood between another one and its label.
    for row in reversed(rows):
        op, mark, line = row
        if op not in ("jump", "iftrue", "iffalse") or not is_next(mark, kept):
            kept.insert(0, row)
        elif op != "jump":
            kept.insert(0, ("drop", None, line))
    return kept


def without_unused_labels(rows):
    """The rows without labels whose mark no other row has."""
    marks = [row[1] for row in rows if row[0] != "label" and arg_sort(row[0]) == "mark"]
    return [row for row in rows if row[0] != "label" or row[1] in marks]


def pruned(code):
    """The code without needless rows; BadCode, Unsound."""
    return without_unused_labels(without_idle_jumps(come_to(code)))


def is_pruned(code):
    """Whether no row of the code is needless; BadCode, Unsound."""
    return pruned(code) == code
