"""Bonds: papers that show that two codes tell the same and end alike, whatever the names are.

A bond is a list of pairs of places, one in each code, (0, 0) being the first. Both codes come to a pair with the same
stack, the same names, and the same told. If both have a deed there that can be seen (tell, return, what can fault), it
is the same one; else they do rows of which nothing can be seen. Either way both come to a pair of the list again, or
end alike. The pairs stand in the order in which they are come to, none is left out, and none is there beyond these.
"""

from codemill.codes import check_code, is_number
from codemill.sides import Sheet, halt_word, run_on, side_at
from codemill.sound import FAULTING, PUSHES, TAKES
from codemill.tables import is_tuple_of
from codemill.terms import Terms

FIRST_PAIR = (0, 0)

# How many choices may lie open between two pairs: each one doubles the ways that are gone through.
MOST_CHOICES = 6


class Frame:
    """The two codes between which a bond is sought or looked at, and the terms of both."""

    def __init__(self, code, other):
        check_code(code)
        check_code(other)
        self.first = Sheet(code)
        self.second = Sheet(other)
        self.terms = Terms()


def are_level(left, right):
    """Whether both sides have the same stack and the same names."""
    return left.held == right.held and left.known == right.known


def is_same_deed(left, right):
    """Whether both sides, which are level, do the same, and fault alike."""
    op, arg, line = left.row()
    other_op, other_arg, other_line = right.row()
    if op != other_op or arg != other_arg:
        return False
    if op not in FAULTING:
        return True
    is_free = left.guard() is None
    # Where a guard takes the fault, its line isn't told.
    return is_free == (right.guard() is None) and (not is_free or line == other_line)


def done(terms, side):
    """The side behind its deed, if that didn't fault."""
    op, arg = side.row()[0], side.row()[1]
    found = side.twin()
    found.go_to(side.here + 1)
    found.held = side.held[:len(side.held) - TAKES.get(op, 0)]
    if op == "load":
        found.held.append(terms.shaped("name", arg))
    elif op in PUSHES:
        found.held.append(terms.shaped("made"))
    elif op == "clear":
        found.known[arg] = None
    return found


def faulted(terms, side):
    """The side where its guard has taken the fault of its deed."""
    mark, depth = side.guard()
    found = side.twin()
    found.go_to(side.sheet.goals[mark])
    found.held = side.held[:depth] + [terms.shaped("fault")]
    return found


def ways_behind(terms, left, right):
    """The pairs of sides to which the same deed of both may lead; none, where both end."""
    op = left.row()[0]
    ways = []
    if op not in ("return", "raise"):
        ways.append((done(terms, left), done(terms, right)))
    if op in FAULTING and left.guard() is not None:
        ways.append((faulted(terms, left), faulted(terms, right)))
    return ways


def all_pairs(terms, ways, choices):
    """The pairs to which both sides come on any of the ways, None if on one they don't go alike."""
    found = []
    for truths, left, right in ways:
        more = next_pairs(terms, truths, left, right, choices)
        if more is None:
            return None
        found.extend(more)
    return found


def pairs_at_deeds(terms, left, right):
    """The pairs to which both sides come, each being at a deed; None if they don't go alike."""
    if left.passed or right.passed:
        return [(left.here, right.here)] if are_level(left, right) else None
    if not is_same_deed(left, right):
        return None
    ways = [({}, one, another) for one, another in ways_behind(terms, left, right)]
    return all_pairs(terms, ways, MOST_CHOICES)


def chosen_ways(terms, truths, chooser, left, right):
    """The ways on, one for each truth of the term by which the chooser, one of both sides, chooses."""
    term = terms.unturned(chooser.held[-1])[0]
    ways = []
    for truth in (True, False):
        behind = dict(truths)
        behind[term] = truth
        ways.append((behind, left.twin(), right.twin()))
    return ways


def next_pairs(terms, truths, left, right, choices):
    """The pairs to which both sides come, no more than so many choices being open; None if they don't go alike."""
    run_on(terms, truths, left)
    run_on(terms, truths, right)
    words = (halt_word(left), halt_word(right))
    if words == ("deed", "deed"):
        return pairs_at_deeds(terms, left, right)
    # A pair to which one side came without doing a row would let by that the other one goes round for ever.
    if left.passed and right.passed and are_level(left, right):
        return [(left.here, right.here)]
    if choices == 0 or "choice" not in words:
        return None
    chooser = left if words[0] == "choice" else right
    return all_pairs(terms, chosen_ways(terms, truths, chooser, left, right), choices - 1)


def pairs_behind(frame, pair):
    """The pairs to which both codes come behind this one, None if they don't go alike."""
    left = side_at(frame.terms, frame.first, pair[0])
    right = side_at(frame.terms, frame.second, pair[1])
    return next_pairs(frame.terms, {}, left, right, MOST_CHOICES)


def add_new(pairs, listed, more):
    """Put those of the further pairs behind that aren't listed yet."""
    for pair in more:
        if pair not in listed:
            listed[pair] = True
            pairs.append(pair)


def bond(code, other):
    """A bond of both codes, None where none is found; BadCode, Unsound."""
    frame = Frame(code, other)
    pairs = [FIRST_PAIR]
    listed = {FIRST_PAIR: True}
    at = 0
    while at < len(pairs):
        more = pairs_behind(frame, pairs[at])
        if more is None:
            return None
        add_new(pairs, listed, more)
        at += 1
    return pairs


def is_pair(thing):
    """Whether the thing is a pair of whole numbers."""
    return is_tuple_of(thing, 2) and is_number(thing[0]) and is_number(thing[1])


def binds(code, other, thing):
    """Whether the thing is a bond of both codes; BadCode, Unsound."""
    frame = Frame(code, other)
    if not isinstance(thing, list) or not all([is_pair(pair) for pair in thing]):
        return False
    awaited = [FIRST_PAIR]
    listed = {FIRST_PAIR: True}
    for at, pair in enumerate(thing):
        # Only pairs that are come to are looked at, so that their places surely have states, and these agree.
        if at == len(awaited) or pair != awaited[at]:
            return False
        more = pairs_behind(frame, pair)
        if more is None:
            return False
        add_new(awaited, listed, more)
    return len(awaited) == len(thing)
