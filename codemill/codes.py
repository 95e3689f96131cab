"""Rows and codes: what they are, and what keeps a thing from being one."""

from codemill.errors import BadCode

MOST_ROWS = 150
MOST_LINE = 9999
MOST_MARK = 99
MOST_PUSHED = 10 ** 9
LONGEST_NAME = 4
LONGEST_KIND = 8

# Which sort of arg each op has; there are no other ops.
ARG_SORTS = {
    "push": "value",
    "load": "name",
    "quick": "name",
    "store": "name",
    "clear": "name",
    "copy": "copied",
    "swap": "swapped",
    "jump": "mark",
    "iftrue": "mark",
    "iffalse": "mark",
    "ortrue": "mark",
    "orfalse": "mark",
    "try": "mark",
    "label": "mark",
    "add": "none",
    "sub": "none",
    "mul": "none",
    "div": "none",
    "rest": "none",
    "less": "none",
    "same": "none",
    "neg": "none",
    "not": "none",
    "drop": "none",
    "tell": "none",
    "return": "none",
    "raise": "none",
    "endtry": "none",
}


def is_number(thing):
    """Whether the thing is a whole number; truths are none, though Python counts them as such."""
    return isinstance(thing, int) and not isinstance(thing, bool)


def is_number_within(thing, low, high):
    """Whether the thing is a whole number from low to high."""
    return is_number(thing) and low <= thing <= high


def is_letters(thing, most):
    """Whether the thing is a text of 1 to so many letters, small or capital."""
    return isinstance(thing, str) and 1 <= len(thing) <= most and thing.isascii() and thing.isalpha()


def is_name(thing):
    """Whether the thing is a name."""
    return is_letters(thing, LONGEST_NAME) and thing.islower()


def is_kind(thing):
    """Whether the thing is a kind."""
    return is_letters(thing, LONGEST_KIND)


def is_mark(thing):
    """Whether the thing is a mark."""
    return is_number_within(thing, 0, MOST_MARK)


def is_value_within(thing, most):
    """Whether the thing is a value, a number being no further from 0 than most."""
    if thing is None or isinstance(thing, bool):
        return True
    return is_number_within(thing, -most, most) or is_kind(thing)


def is_pushed(thing):
    """Whether the thing is a value that push can have."""
    return is_value_within(thing, MOST_PUSHED)


def is_copied(thing):
    """Whether the thing can be the arg of copy."""
    return is_number_within(thing, 1, 9)


def is_swapped_with(thing):
    """Whether the thing can be the arg of swap."""
    return is_number_within(thing, 2, 9)


def is_none(thing):
    """Whether the thing is None, the arg of the ops that have none."""
    return thing is None


ARG_TESTS = {
    "value": is_pushed,
    "name": is_name,
    "copied": is_copied,
    "swapped": is_swapped_with,
    "mark": is_mark,
    "none": is_none,
}


def is_op(thing):
    """Whether the thing is an op; any thing may be asked, so lists must not reach the dict as keys."""
    return isinstance(thing, str) and thing in ARG_SORTS


def arg_sort(op):
    """The sort of arg that the op has."""
    return ARG_SORTS[op]


def arg_fits(op, arg):
    """Whether the op can have the arg."""
    fits = ARG_TESTS[arg_sort(op)]
    return fits(arg)


def is_row(thing):
    """Whether the thing is a row."""
    if not isinstance(thing, tuple) or len(thing) != 3:
        return False
    op, arg, line = thing
    return is_op(op) and arg_fits(op, arg) and is_number_within(line, 0, MOST_LINE)


def label_places(rows):
    """The place of the first label of each mark; what is no row is no label."""
    places = {}
    for place, row in enumerate(rows):
        if is_row(row) and row[0] == "label":
            places.setdefault(row[1], place)
    return places


def mark_fits(row, place, labels):
    """Whether the row at the place, if it has a mark, agrees with the places of the labels."""
    op, mark = row[0], row[1]
    if op == "label":
        return labels[mark] == place
    return arg_sort(op) != "mark" or mark in labels


def first_bad_place(rows):
    """The first place of the list that keeps it from being a code, None if there is none."""
    labels = label_places(rows)
    for place, row in enumerate(rows):
        if not is_row(row) or not mark_fits(row, place, labels):
            return place
    return None


def has_places(thing):
    """Whether the thing is a list as long as a code may be."""
    return isinstance(thing, list) and 1 <= len(thing) <= MOST_ROWS


def is_code(thing):
    """Whether the thing is a code."""
    return has_places(thing) and first_bad_place(thing) is None


def check_code(thing):
    """Refuse what is no code, by BadCode."""
    if not has_places(thing):
        raise BadCode(None)
    place = first_bad_place(thing)
    if place is not None:
        raise BadCode(place)
