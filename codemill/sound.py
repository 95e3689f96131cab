"""Sound codes: in which state each place is come to, or what shows that a code is not sound."""

from codemill.codes import check_code, is_mark, is_number, is_number_within, label_places
from codemill.errors import Unsound

FIRST_STATE = (0, ())

# How many values an op takes, and how many it pushes; 0 of all others. What copy and swap ask for, their arg tells.
TAKES = {
    "store": 1, "drop": 1, "add": 2, "sub": 2, "mul": 2, "div": 2, "rest": 2, "less": 2, "same": 2, "neg": 1, "not": 1,
    "tell": 1, "iftrue": 1, "iffalse": 1, "ortrue": 1, "orfalse": 1, "return": 1, "raise": 1,
}
PUSHES = {
    "push": 1, "load": 1, "quick": 1, "copy": 1,
    "add": 1, "sub": 1, "mul": 1, "div": 1, "rest": 1, "less": 1, "same": 1, "neg": 1, "not": 1,
}
# How many guards are there more.
GUARDS_PUT = {"try": 1, "endtry": -1}

JUMPING = ("jump", "iftrue", "iffalse", "ortrue", "orfalse")
LEAVING = ("ortrue", "orfalse")
NEVER_ON = ("jump", "return", "raise")
FAULTING = ("load", "clear", "add", "sub", "mul", "div", "rest", "less", "neg", "raise")


def uppermost(guards):
    """The uppermost guard, None if there is none."""
    return guards[-1] if guards else None


def depth_asked(row):
    """How deep the stack must be at least for the row."""
    op, arg = row[0], row[1]
    return arg if op in ("copy", "swap") else TAKES.get(op, 0)


def lacks_values(row, depth):
    """Whether the stack is less deep than the row takes values."""
    return depth < depth_asked(row)


def lacks_guard(row, guard):
    """Whether the row is an endtry that finds no guard."""
    return row[0] == "endtry" and guard is None


def takes_beneath(row, depth, guard):
    """Whether the row takes, or swaps, a value that lies beneath the guard's depth."""
    if guard is None or row[0] == "copy":
        return False
    # Where the row takes more than there is, what is there counts.
    lowest = max(0, depth - depth_asked(row))
    return lowest < min(depth, guard[1])


def moves(code, labels, place, depth, guard):
    """What comes next: tuples of a place, its depth, and how many guards there are more.

    The guard is the uppermost one, or None. A place is None where its mark has no label, as only such guards can
    have that were made up.
    """
    row = code[place]
    op, arg = row[0], row[1]
    # The machine can't do a row without what it takes, so nothing comes behind it.
    if lacks_values(row, depth) or lacks_guard(row, guard):
        return []
    behind = depth - TAKES.get(op, 0) + PUSHES.get(op, 0)
    found = []
    if op not in NEVER_ON:
        found.append((place + 1, behind, GUARDS_PUT.get(op, 0)))
    if op in JUMPING:
        found.append((labels[arg], depth if op in LEAVING else behind, 0))
    if op in FAULTING and guard is not None:
        found.append((labels.get(guard[0]), guard[1] + 1, -1))
    return found


def words_lacking(code, labels, place, depth, guard):
    """The words for all that the place lacks, with this depth and uppermost guard."""
    row = code[place]
    goals = [goal for goal, deeper, more in moves(code, labels, place, depth, guard)]
    found = {
        "takes": lacks_values(row, depth),
        "guard": lacks_guard(row, guard),
        "beneath": takes_beneath(row, depth, guard),
        "end": len(code) in goals,
    }
    return [word for word, is_lacking in found.items() if is_lacking]


def guards_behind(row, state, more):
    """The guards behind the row, where there are so many more."""
    depth, guards = state
    if more == 1:
        return guards + ((row[1], depth),)
    return guards[:-1] if more == -1 else guards


def next_states(code, labels, place, state):
    """The pairs of a place that comes next and the state in which it comes."""
    depth, guards = state
    return [
        (goal, (deeper, guards_behind(code[place], state, more)))
        for goal, deeper, more in moves(code, labels, place, depth, uppermost(guards))
    ]


def state_words(code, labels, place, state):
    """The words for all that the place lacks in the state."""
    return words_lacking(code, labels, place, state[0], uppermost(state[1]))


def searched(code):
    """The pair of the states that were found, and of what shows that the code is not sound, None if it is."""
    labels = label_places(code)
    found = [None] * len(code)
    found[0] = FIRST_STATE
    walks = {0: (0,)}
    waiting = [0]
    while waiting:
        place = waiting.pop(0)
        words = state_words(code, labels, place, found[place])
        if words:
            return (found, (words[0], walks[place]))
        for goal, state in next_states(code, labels, place, found[place]):
            walk = walks[place] + (goal,)
            if found[goal] is None:
                found[goal] = state
                walks[goal] = walk
                waiting.append(goal)
            elif found[goal] != state:
                return (found, ("unlike", walks[goal], walk))
    return (found, None)


def states(code):
    """The state of each place, None where nothing comes; BadCode, Unsound."""
    check_code(code)
    found, reason = searched(code)
    if reason is not None:
        raise Unsound(f"not sound: {reason[0]}")
    return found


def most(code):
    """The greatest depth of all states; BadCode, Unsound."""
    return max([state[0] for state in states(code) if state is not None])


def why(code):
    """What shows that the code is not sound, None if it is; BadCode."""
    check_code(code)
    return searched(code)[1]


def is_walk(thing, many):
    """Whether the thing is a tuple of places, from 0 on, in a code of so many rows."""
    if not isinstance(thing, tuple) or len(thing) == 0:
        return False
    return all([is_number_within(place, 0, many - 1) for place in thing]) and thing[0] == 0


def put_guard(chains, puts, guard, chain):
    """The number of the chain with the guard upon this one; one is enough for all that are put at once."""
    if guard not in puts:
        puts[guard] = len(chains)
        chains.append((guard, []))
    number = puts[guard]
    chains[number][1].append(chain)
    return number


def ways_on(code, labels, chains, ways, step):
    """The ways in which a step, from a place to another, leads on these ways."""
    place, goal = step
    found = {}
    puts = {}
    for depth, chain in ways:
        guard, beneath = chains[chain]
        for there, deeper, more in moves(code, labels, place, depth, guard):
            behind = [chain]
            if there != goal:
                behind = []
            elif more == 1:
                behind = [put_guard(chains, puts, (code[place][1], depth), chain)]
            elif more == -1:
                behind = beneath
            for other in behind:
                found[(deeper, other)] = True
    return list(found)


def ways_to_end(code, chains, walk):
    """The ways in which the walk comes to its last place, none if it can't come.

    One walk may come in very many states, as both ways behind a row may lead to one place. So a way is a pair of a
    depth and of the number of a chain of guards: its uppermost guard, and the numbers of all that may lie beneath.
    """
    labels = label_places(code)
    ways = [(0, 0)]
    for step in zip(walk, walk[1:]):
        ways = ways_on(code, labels, chains, ways, step)
    return ways


def are_alike(chains, ways):
    """Whether all the ways are one and the same state."""
    level = sorted({chain for depth, chain in ways})
    alike = len({depth for depth, chain in ways}) <= 1
    while alike and level:
        alike = len({chains[chain][0] for chain in level}) == 1
        level = sorted({under for chain in level for under in chains[chain][1]})
    return alike


def shows_lack(code, word, walk):
    """Whether at the last place of the walk the word lacks."""
    # The chain 0 is that of no guards.
    chains = [(None, [])]
    ways = ways_to_end(code, chains, walk)
    labels = label_places(code)
    return any([word in words_lacking(code, labels, walk[-1], depth, chains[chain][0]) for depth, chain in ways])


def shows_unlike(code, walk, other):
    """Whether both walks end at one place in unlike states."""
    if walk[-1] != other[-1]:
        return False
    chains = [(None, [])]
    ways = ways_to_end(code, chains, walk)
    others = ways_to_end(code, chains, other)
    return ways != [] and others != [] and not are_alike(chains, ways + others)


def shows_bad(code, thing):
    """Whether the thing shows that the code is not sound; BadCode."""
    check_code(code)
    if not isinstance(thing, tuple) or len(thing) not in (2, 3):
        return False
    word, *walks = thing
    if not all([is_walk(walk, len(code)) for walk in walks]):
        return False
    if len(walks) == 2:
        return word == "unlike" and shows_unlike(code, walks[0], walks[1])
    return shows_lack(code, word, walks[0])


def is_guard(thing):
    """Whether the thing is a guard: a tuple of a mark and a depth."""
    return isinstance(thing, tuple) and len(thing) == 2 and is_mark(thing[0]) and is_number(thing[1]) and thing[1] >= 0


def is_state(thing):
    """Whether the thing is a state."""
    if not isinstance(thing, tuple) or len(thing) != 2:
        return False
    depth, guards = thing
    if not is_number(depth) or depth < 0 or not isinstance(guards, tuple):
        return False
    return all([is_guard(guard) for guard in guards])


def is_table(thing, many):
    """Whether the thing is a list of so many states or None, the first being that of place 0."""
    if not isinstance(thing, list) or len(thing) != many:
        return False
    return all([state is None or is_state(state) for state in thing]) and thing[0] == FIRST_STATE


def fits_at(code, labels, table, place):
    """Whether the place, if it has a state in the table, lacks nothing, and all that comes next stands there."""
    state = table[place]
    if state is None:
        return True
    if state_words(code, labels, place, state):
        return False
    for goal, behind in next_states(code, labels, place, state):
        if goal is None or table[goal] != behind:
            return False
    return True


def shows_sound(code, thing):
    """Whether the thing is a table of states that shows that the code is sound; BadCode."""
    check_code(code)
    if not is_table(thing, len(code)):
        return False
    labels = label_places(code)
    return all([fits_at(code, labels, thing, place) for place in range(len(code))])
