"""The two tables that go with units, of the guarded stretches and of the lines: what they are."""

from codemill.codes import MOST_LINE, is_number_within

MOST_DEPTH = 999
MOST_MANY = 9999


def is_tuple_of(thing, many):
    """Whether the thing is a tuple of so many things."""
    return isinstance(thing, tuple) and len(thing) == many


def is_guard_entry(thing, low, most):
    """Whether the thing is an entry of a table of guards that begins at low or behind it, no place being above most."""
    if not is_tuple_of(thing, 4):
        return False
    begin, end, goal, depth = thing
    if not is_number_within(begin, low, most) or not is_number_within(end, begin + 1, most):
        return False
    return is_number_within(goal, 0, most) and is_number_within(depth, 0, MOST_DEPTH)


def is_guard_table(thing, most):
    """Whether the thing is a table of guards in which no place is above most."""
    if not isinstance(thing, tuple):
        return False
    low = 0
    for entry in thing:
        if not is_guard_entry(entry, low, most):
            return False
        low = entry[1]
    return True


def is_line_entry(thing):
    """Whether the thing is an entry of a table of lines."""
    if not is_tuple_of(thing, 2):
        return False
    return is_number_within(thing[0], 1, MOST_MANY) and is_number_within(thing[1], 0, MOST_LINE)


def is_line_table(thing):
    """Whether the thing is a table of lines, whatever many units they are of."""
    return isinstance(thing, tuple) and all([is_line_entry(entry) for entry in thing])
