"""Sides: a code on its way through rows that tell nothing, can't fault, and choose nothing that isn't known.

The stack and the names are told by terms, all of one beginning that both sides of a bond share.
"""

from codemill.codes import label_places
from codemill.names import surely
from codemill.sound import states, uppermost

CHOOSING = ("iftrue", "iffalse", "ortrue", "orfalse")


class Sheet:
    """What is asked of a code again and again: its rows, labels' places and states, and the names surely set."""

    def __init__(self, code):
        self.rows = list(code)
        self.goals = label_places(code)
        self.standing = states(code)
        self.sure = surely(code)


class Side:
    """A code on its way: `here`, its place, `held`, the stack, `known`, the names that were changed, and `passed`.

    Of a name that was changed `known` has the term, or None if it has no value; `passed` has the places of all rows
    that were done.
    """

    def __init__(self, sheet, here, held):
        self.sheet = sheet
        self.here = here
        self.held = held
        self.known = {}
        self.passed = {}

    def twin(self):
        """Another side that stands as this one does."""
        found = Side(self.sheet, self.here, list(self.held))
        found.known = dict(self.known)
        found.passed = dict(self.passed)
        return found

    def row(self):
        """The row at its place."""
        return self.sheet.rows[self.here]

    def guard(self):
        """The uppermost guard at its place, None if there is none."""
        return uppermost(self.sheet.standing[self.here][1])

    def go_to(self, place):
        """Go on to the place, the row here being done."""
        self.passed[self.here] = True
        self.here = place


def side_at(terms, sheet, place):
    """The side at the place, where nothing is known but how deep the stack is."""
    depth = sheet.standing[place][0]
    return Side(sheet, place, [terms.shaped("held", at) for at in range(depth)])


def name_term(terms, side, name):
    """The term of the name's value, None being that of a name that has none."""
    if name not in side.known:
        return terms.shaped("name", name)
    term = side.known[name]
    return terms.constant(None) if term is None else term


# Each of these does the row, if nothing of it can be seen, and tells the place that comes next; else None.


def pass_on(terms, truths, side, arg):
    """Labels, try and endtry do nothing to values and names."""
    return side.here + 1


def pass_push(terms, truths, side, arg):
    """Push the value."""
    side.held.append(terms.constant(arg))
    return side.here + 1


def pass_quick(terms, truths, side, arg):
    """Push the name's value."""
    side.held.append(name_term(terms, side, arg))
    return side.here + 1


def pass_load(terms, truths, side, arg):
    """Push the name's value, if it is surely set; else the row can fault."""
    if arg not in side.sheet.sure[side.here]:
        return None
    return pass_quick(terms, truths, side, arg)


def pass_store(terms, truths, side, arg):
    """Give the top value to the name."""
    side.known[arg] = side.held.pop()
    return side.here + 1


def pass_drop(terms, truths, side, arg):
    """Take the top value."""
    side.held.pop()
    return side.here + 1


def pass_copy(terms, truths, side, arg):
    """Push what lies so deep."""
    side.held.append(side.held[-arg])
    return side.here + 1


def pass_swap(terms, truths, side, arg):
    """Exchange the top and what lies so deep."""
    held = side.held
    held[-1], held[-arg] = held[-arg], held[-1]
    return side.here + 1


def pass_two(terms, truths, side, arg):
    """Push what the op makes of two values, unless it may fault."""
    made = terms.of_two(side.row()[0], side.held[-2], side.held[-1])
    if made is None:
        return None
    side.held[-2:] = [made]
    return side.here + 1


def pass_one(terms, truths, side, arg):
    """Push what the op makes of one value, unless it may fault."""
    made = terms.of_one(side.row()[0], side.held[-1])
    if made is None:
        return None
    side.held[-1] = made
    return side.here + 1


def pass_jump(terms, truths, side, arg):
    """Go to the label."""
    return side.sheet.goals[arg]


def pass_if(terms, truths, side, arg):
    """Take the value, and go where it leads, if its truth is known."""
    truth = terms.truth(side.held[-1], truths)
    if truth is None:
        return None
    side.held.pop()
    return side.sheet.goals[arg] if truth == (side.row()[0] == "iftrue") else side.here + 1


def pass_or(terms, truths, side, arg):
    """Go where the value leads, if its truth is known, and take it, if that isn't the label."""
    truth = terms.truth(side.held[-1], truths)
    if truth is None:
        return None
    if truth == (side.row()[0] == "ortrue"):
        return side.sheet.goals[arg]
    side.held.pop()
    return side.here + 1


PASSES = {
    "label": pass_on,
    "try": pass_on,
    "endtry": pass_on,
    "push": pass_push,
    "quick": pass_quick,
    "load": pass_load,
    "store": pass_store,
    "drop": pass_drop,
    "copy": pass_copy,
    "swap": pass_swap,
    "add": pass_two,
    "sub": pass_two,
    "mul": pass_two,
    "div": pass_two,
    "rest": pass_two,
    "less": pass_two,
    "same": pass_two,
    "neg": pass_one,
    "not": pass_one,
    "jump": pass_jump,
    "iftrue": pass_if,
    "iffalse": pass_if,
    "ortrue": pass_or,
    "orfalse": pass_or,
}


def place_behind(terms, truths, side):
    """Do the row here, if nothing of it can be seen, and tell the place that comes next; else None."""
    op, arg = side.row()[0], side.row()[1]
    if op not in PASSES:
        return None
    deed = PASSES[op]
    return deed(terms, truths, side, arg)


def run_on(terms, truths, side):
    """Do rows till one can be seen, or till a place comes again."""
    while side.here not in side.passed:
        place = place_behind(terms, truths, side)
        if place is None:
            return
        side.go_to(place)


def halt_word(side):
    """Why the side halts here: it comes "round", it has a "choice", or it does a "deed" that can be seen."""
    if side.here in side.passed:
        return "round"
    return "choice" if side.row()[0] in CHOOSING else "deed"
