"""Flow: which places and blocks come behind which, and what every walk must pass."""

from codemill.codes import label_places
from codemill.sound import JUMPING, next_states, states


def follows(code):
    """For each place the rising list of places that can come next; BadCode, Unsound."""
    found = states(code)
    labels = label_places(code)
    goals = []
    for place, state in enumerate(found):
        behind = [] if state is None else next_states(code, labels, place, state)
        goals.append(sorted({goal for goal, after in behind}))
    return goals


def begins_block(code, place):
    """Whether a block begins at the place."""
    if place == 0 or code[place][0] == "label":
        return True
    ahead = code[place - 1][0]
    return ahead in JUMPING or ahead in ("return", "raise")


def parts(code):
    """The blocks of a code, as pairs of the first place and the one behind the last."""
    firsts = [place for place in range(len(code)) if begins_block(code, place)]
    return list(zip(firsts, firsts[1:] + [len(code)]))


def blocks(code):
    """The list of the blocks, as pairs of the first place and the one behind the last; BadCode, Unsound."""
    states(code)
    return parts(code)


def links(code):
    """For each block the rising list of the blocks that can come next; BadCode, Unsound."""
    goals = follows(code)
    pairs = parts(code)
    numbers = {first: number for number, (first, behind) in enumerate(pairs)}
    found = []
    for first, behind in pairs:
        reached = [goal for place in range(first, behind) for goal in goals[place]]
        # A step within the block leads to no block's beginning, so none comes next by it.
        found.append(sorted({numbers[goal] for goal in reached if goal in numbers}))
    return found


def come_to(nexts, barred):
    """The blocks to which a walk comes that doesn't pass the barred one, as a dict of True."""
    found = {}
    waiting = [0]
    while waiting:
        block = waiting.pop()
        if block != barred and block not in found:
            found[block] = True
            waiting.extend(nexts[block])
    return found


def must(code):
    """For each block the rising list of the blocks that each walk to it passes, itself too; BadCode, Unsound."""
    nexts = links(code)
    everywhere = come_to(nexts, None)
    passed = [[] for block in nexts]
    for barred in range(len(nexts)):
        around = come_to(nexts, barred)
        for block in everywhere:
            if block not in around:
                passed[block].append(barred)
    return passed
