"""What the machine makes of values; a fault that is due is told by its kind, None if none is."""

from codemill.codes import is_kind, is_number

MOST_MADE = 10 ** 18


def is_true(value):
    """Whether the value is a true one."""
    # A kind is never an empty text, so Python's own truth is that of values.
    return bool(value)


def are_same(first, second):
    """Whether both values are of one kind and equal."""
    # Python holds 1 and True, and 0 and False, for equal.
    return isinstance(first, bool) == isinstance(second, bool) and first == second


def sum_of(first, second):
    """The first number with the second added."""
    return first + second


def difference_of(first, second):
    """The first number less the second."""
    return first - second


def product_of(first, second):
    """The first number as often as the second tells."""
    return first * second


def quotient_of(first, second):
    """The first number divided by the second, rounded down."""
    return first // second


def rest_of(first, second):
    """What is left of the first number divided by the second, with the sign of the second."""
    return first % second


RECKONINGS = {
    "add": sum_of,
    "sub": difference_of,
    "mul": product_of,
    "div": quotient_of,
    "rest": rest_of,
}


def made_of_two(op, first, second):
    """The pair of the fault's kind and of what the op makes of both values."""
    if op == "same":
        return (None, are_same(first, second))
    if not is_number(first) or not is_number(second):
        return ("Type", None)
    if op in ("div", "rest") and second == 0:
        return ("Zero", None)
    if op == "less":
        return (None, first < second)
    reckon = RECKONINGS[op]
    value = reckon(first, second)
    if abs(value) > MOST_MADE:
        return ("Big", None)
    return (None, value)


def made_of_one(op, value):
    """The pair of the fault's kind and of what neg or not makes of the value."""
    if op == "not":
        return (None, not is_true(value))
    if not is_number(value):
        return ("Type", None)
    return (None, -value)


def kind_raised(value):
    """The kind of the fault by which raise faults with the value."""
    return value if is_kind(value) else "Type"
