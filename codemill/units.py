"""Units: codes in small pieces with small arguments, and the tables that go with them."""

from codemill.codes import arg_sort, is_name, is_number_within, is_pushed, label_places
from codemill.digits import digits_of, number_of
from codemill.errors import BadUnits
from codemill.sound import states, uppermost
from codemill.tables import is_guard_table, is_line_table, is_tuple_of
from codemill.values import are_same

BASE = 16

# An op's number is its place here.
OPS = (
    "more", "push", "load", "quick", "store", "clear", "drop", "copy", "swap",
    "add", "sub", "mul", "div", "rest", "less", "same", "neg", "not", "tell",
    "jump", "iftrue", "iffalse", "ortrue", "orfalse", "return", "raise",
)
MORE = 0


def is_unit(thing):
    """Whether the thing is a unit: a pair of an op's number and a digit."""
    if not is_tuple_of(thing, 2):
        return False
    return is_number_within(thing[0], 0, len(OPS) - 1) and is_number_within(thing[1], 0, BASE - 1)


def are_consts(thing):
    """Whether the thing is a tuple of values that push can have."""
    return isinstance(thing, tuple) and all([is_pushed(value) for value in thing])


def are_names(thing):
    """Whether the thing is a tuple of names."""
    return isinstance(thing, tuple) and all([is_name(name) for name in thing])


def are_units(thing):
    """Whether the thing is a tuple of units."""
    return isinstance(thing, tuple) and all([is_unit(unit) for unit in thing])


def are_lines(thing, many):
    """Whether the thing is a table of the lines of so many units."""
    return is_line_table(thing) and sum([entry[0] for entry in thing]) == many


def are_parts(consts, names, units, table, lines):
    """Whether the things are the parts of units."""
    if not are_consts(consts) or not are_names(names) or not are_units(units):
        return False
    return is_guard_table(table, len(units)) and are_lines(lines, len(units))


def all_same(values, others):
    """Whether there are as many values as others, each the same as its other one."""
    return len(values) == len(others) and all([are_same(value, other) for value, other in zip(values, others)])


class Units:
    """Constants, names, units, the table of guards and that of lines; BadUnits."""

    def __init__(self, consts, names, units, table, lines):
        if not are_parts(consts, names, units, table, lines):
            raise BadUnits("no parts of units")
        self.pushed = consts
        self.named = names
        self.pieces = units
        self.stretches = table
        self.lined = lines

    def consts(self):
        """The constants."""
        return self.pushed

    def names(self):
        """The names."""
        return self.named

    def units(self):
        """The units, pairs of an op's number and a digit."""
        return self.pieces

    def table(self):
        """The table of guards, tuples (begin, end, goal, depth)."""
        return self.stretches

    def lines(self):
        """The table of lines, tuples (how many, line)."""
        return self.lined

    def __eq__(self, other):
        if not isinstance(other, Units):
            return False
        # Of all the parts only constants can be equal without being of one kind.
        if not all_same(self.pushed, other.pushed) or self.named != other.named or self.pieces != other.pieces:
            return False
        return self.stretches == other.stretches and self.lined == other.lined

    def __len__(self):
        return len(self.pieces)


def value_key(value):
    """A key that tells truths from the numbers that Python holds for equal."""
    return (isinstance(value, bool), value)


def numbered(keys):
    """The place of each key among all of them, each counted once, as they come."""
    places = {}
    for key in keys:
        places.setdefault(key, len(places))
    return places


def args_of_sort(code, sort):
    """The args of that sort, as they come."""
    return [row[1] for row in code if arg_sort(row[0]) == sort]


def makes_units(row):
    """Whether the row becomes units."""
    return row[0] in OPS


def number_for(row, consts, names, goals):
    """The number of the row, by the places of constants and names, and the first unit behind each mark's label."""
    op, arg = row[0], row[1]
    sort = arg_sort(op)
    if sort == "value":
        return consts[value_key(arg)]
    if sort == "name":
        return names[arg]
    if sort == "mark":
        return goals[arg]
    return 0 if arg is None else arg


def first_units(sizes):
    """The first unit of each row, or behind it, if it has none, where the rows have so many units."""
    firsts = []
    many = 0
    for size in sizes:
        firsts.append(many)
        many += size
    return firsts


def sized(digits):
    """How many units rows with these digits have."""
    return [len(row_digits) for row_digits in digits]


def digits_by(code, consts, names, sizes):
    """The digits of each row, none of those that make no units, where the rows have so many units."""
    firsts = first_units(sizes)
    goals = {mark: firsts[place] for mark, place in label_places(code).items()}
    return [
        digits_of(number_for(row, consts, names, goals), BASE) if makes_units(row) else []
        for row in code
    ]


def fewest_digits(code, consts, names):
    """The digits of each row, as few as can be, all together."""
    # From too few units on, as a row that gets more can only push goals further away: so none gets more than it must.
    sizes = [0] * len(code)
    digits = digits_by(code, consts, names, sizes)
    while sized(digits) != sizes:
        sizes = sized(digits)
        digits = digits_by(code, consts, names, sizes)
    return digits


def row_units(row, digits):
    """The units of the row with these digits."""
    if not makes_units(row):
        return []
    return [(MORE, digit) for digit in digits[:-1]] + [(OPS.index(row[0]), digits[-1])]


def long_stretches(things):
    """The longest stretches of equal things, as tuples (first place, the one behind the last, thing)."""
    found = []
    begin = 0
    for at in range(1, len(things) + 1):
        if at == len(things) or things[at] != things[begin]:
            found.append((begin, at, things[begin]))
            begin = at
    return found


def guards_by_row(code):
    """The uppermost guard of each row, None where there is none or no walk comes."""
    return [None if state is None else uppermost(state[1]) for state in states(code)]


def by_unit(things, sizes):
    """For each unit the thing of its row, where the rows have so many units."""
    return [thing for thing, size in zip(things, sizes) for count in range(size)]


def guard_table(code, guards, sizes):
    """The table of guards, by the uppermost guard of each row."""
    labels = label_places(code)
    firsts = first_units(sizes)
    stretches = long_stretches(by_unit(guards, sizes))
    return tuple([
        (begin, end, firsts[labels[guard[0]]], guard[1])
        for begin, end, guard in stretches if guard is not None
    ])


def line_table(code, sizes):
    """The table of lines."""
    stretches = long_stretches(by_unit([row[2] for row in code], sizes))
    return tuple([(end - begin, line) for begin, end, line in stretches])


def assembled(code):
    """The code as units; BadCode, Unsound."""
    guards = guards_by_row(code)
    consts = numbered([value_key(value) for value in args_of_sort(code, "value")])
    names = numbered(args_of_sort(code, "name"))
    digits = fewest_digits(code, consts, names)
    sizes = sized(digits)
    units = [unit for row, row_digits in zip(code, digits) for unit in row_units(row, row_digits)]
    return Units(
        tuple([value for is_truth, value in consts]),
        tuple(names),
        tuple(units),
        guard_table(code, guards, sizes),
        line_table(code, sizes),
    )


def arg_by(units, op, number):
    """The arg of the op with the number."""
    sort = arg_sort(op)
    if sort == "value":
        return units.consts()[number]
    if sort == "name":
        return units.names()[number]
    return None if sort == "none" else number


def listing(units):
    """For each row of units that were assembled a tuple (first unit, op, arg, line)."""
    found = []
    digits = []
    for at, (op_number, digit) in enumerate(units.units()):
        digits.append(digit)
        if op_number != MORE:
            op = OPS[op_number]
            found.append((at + 1 - len(digits), op, arg_by(units, op, number_of(digits, BASE)), line_at(units, at)))
            digits = []
    return found


def line_at(units, at):
    """The line of the unit."""
    behind = 0
    for many, line in units.lines():
        behind += many
        if at < behind:
            return line
    return None


def guard_at(units, at):
    """The pair of the goal and the depth of the unit's guard, None if it has none."""
    for begin, end, goal, depth in units.table():
        if begin <= at < end:
            return (goal, depth)
    return None
