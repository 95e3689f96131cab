"""Names: which of them surely have a value at each place, and loads of these made quick."""

from codemill.codes import is_name, label_places
from codemill.errors import BadNames
from codemill.sound import moves, states, uppermost


def is_given(thing):
    """Whether the thing is a rising tuple of names."""
    if not isinstance(thing, tuple) or not all([is_name(name) for name in thing]):
        return False
    return all([name < other for name, other in zip(thing, thing[1:])])


def check_given(thing):
    """Refuse what is no rising tuple of names, by BadNames."""
    if not is_given(thing):
        raise BadNames("no rising tuple of names")


def set_behind(row, names):
    """The rising list of the names that are set behind the row, if it didn't fault, where these were ahead of it."""
    op, arg = row[0], row[1]
    if op in ("store", "load") and arg not in names:
        return sorted(names + [arg])
    if op == "clear":
        return [name for name in names if name != arg]
    return names


def ways_on(code, labels, place, state, names):
    """The pairs of a place that comes next and of the names that are set there, coming this way."""
    behind = set_behind(code[place], names)
    # Where a guard goes, the row is an endtry or has faulted, and neither sets or clears a name.
    return [
        (goal, names if more == -1 else behind)
        for goal, depth, more in moves(code, labels, place, state[0], uppermost(state[1]))
    ]


def names_set(code, found, given):
    """The names surely set at each place, found being the states, and None where no walk comes."""
    labels = label_places(code)
    names = [None] * len(code)
    names[0] = list(given)
    waiting = [0]
    while waiting:
        place = waiting.pop()
        for goal, behind in ways_on(code, labels, place, found[place], names[place]):
            ahead = names[goal]
            kept = behind if ahead is None else [name for name in ahead if name in behind]
            if kept != ahead:
                names[goal] = kept
                waiting.append(goal)
    return names


def surely(code, *, given=()):
    """For each place the rising list of the names surely set, None where no walk comes; BadCode, Unsound, BadNames."""
    found = states(code)
    check_given(given)
    return [None if names is None else list(names) for names in names_set(code, found, given)]


def quickened_row(row, names):
    """The row, a quick in the place of a load of one of the names."""
    op, arg, line = row
    if op == "load" and names is not None and arg in names:
        return ("quick", arg, line)
    return row


def quickened(code, *, given=()):
    """The code with a quick for each load of a name that is surely set; BadCode, Unsound, BadNames."""
    return [quickened_row(row, names) for row, names in zip(code, surely(code, given=given))]
