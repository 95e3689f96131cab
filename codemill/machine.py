"""The plain machine: codes run, and walks that do it step by step."""

from codemill.codes import is_name, is_number_within, is_value_within, label_places
from codemill.errors import BadNames, BadNumber
from codemill.sound import states
from codemill.values import MOST_MADE, is_true, kind_raised, made_of_one, made_of_two

MOST_NAMES = 8
MOST_STEPS = 100000

# The end of what hasn't ended.
ON = ("on",)

# What a row leads to: the next place, that of its label, a fault of a kind, or the end with a value.
NEXT = ("next", None)
GO = ("go", None)
UNSET = ("fault", "Unset")


def is_names(thing):
    """Whether the thing is a dict of names with values that can be given."""
    if not isinstance(thing, dict) or len(thing) > MOST_NAMES:
        return False
    return all([is_name(name) and is_value_within(value, MOST_MADE) for name, value in thing.items()])


def check_names(thing):
    """Refuse what is no dict of names with values, by BadNames."""
    if not is_names(thing):
        raise BadNames("no dict of up to 8 names with values")


def check_steps(thing):
    """Refuse what is no number of steps, by BadNumber."""
    if not is_number_within(thing, 0, MOST_STEPS):
        raise BadNumber("no number of steps from 0 to 100,000")


class Hold:
    """What rows work upon: `held`, the stack, `known`, the names with their values, and `said`, what was told."""

    def __init__(self, names):
        self.held = []
        self.known = dict(names)
        self.said = []


def do_push(hold, op, arg):
    """Push the value."""
    hold.held.append(arg)
    return NEXT


def do_load(hold, op, arg):
    """Push the name's value."""
    if arg not in hold.known:
        return UNSET
    hold.held.append(hold.known[arg])
    return NEXT


def do_quick(hold, op, arg):
    """Push the name's value, None if it has none."""
    hold.held.append(hold.known.get(arg))
    return NEXT


def do_store(hold, op, arg):
    """Give the top value to the name."""
    hold.known[arg] = hold.held.pop()
    return NEXT


def do_clear(hold, op, arg):
    """Take the name's value away."""
    if arg not in hold.known:
        return UNSET
    hold.known.pop(arg)
    return NEXT


def do_drop(hold, op, arg):
    """Take the top value."""
    hold.held.pop()
    return NEXT


def do_copy(hold, op, arg):
    """Push the value that lies so deep."""
    hold.held.append(hold.held[-arg])
    return NEXT


def do_swap(hold, op, arg):
    """Exchange the top value and the one that lies so deep."""
    held = hold.held
    held[-1], held[-arg] = held[-arg], held[-1]
    return NEXT


def pushed_or_fault(hold, made):
    """Push the value that was made, unless a fault is due."""
    kind, value = made
    if kind is not None:
        return ("fault", kind)
    hold.held.append(value)
    return NEXT


def do_two(hold, op, arg):
    """Push what the op makes of two values."""
    second = hold.held.pop()
    first = hold.held.pop()
    return pushed_or_fault(hold, made_of_two(op, first, second))


def do_one(hold, op, arg):
    """Push what the op makes of one value."""
    return pushed_or_fault(hold, made_of_one(op, hold.held.pop()))


def do_tell(hold, op, arg):
    """Tell the top value."""
    hold.said.append(hold.held.pop())
    return NEXT


def do_jump(hold, op, arg):
    """Go to the label."""
    return GO


def do_if(hold, op, arg):
    """Take the top value, and go to the label if it is such a one."""
    return GO if is_true(hold.held.pop()) == (op == "iftrue") else NEXT


def do_or(hold, op, arg):
    """Go to the label if the top value is such a one, else take it."""
    if is_true(hold.held[-1]) == (op == "ortrue"):
        return GO
    hold.held.pop()
    return NEXT


def do_return(hold, op, arg):
    """End with the top value."""
    return ("value", hold.held.pop())


def do_raise(hold, op, arg):
    """Fault with the top value's kind."""
    return ("fault", kind_raised(hold.held.pop()))


DEEDS = {
    "push": do_push,
    "load": do_load,
    "quick": do_quick,
    "store": do_store,
    "clear": do_clear,
    "drop": do_drop,
    "copy": do_copy,
    "swap": do_swap,
    "add": do_two,
    "sub": do_two,
    "mul": do_two,
    "div": do_two,
    "rest": do_two,
    "less": do_two,
    "same": do_two,
    "neg": do_one,
    "not": do_one,
    "tell": do_tell,
    "jump": do_jump,
    "iftrue": do_if,
    "iffalse": do_if,
    "ortrue": do_or,
    "orfalse": do_or,
    "return": do_return,
    "raise": do_raise,
}


def do_row(hold, op, arg):
    """Do what the op does with the values and names, and tell to what it leads."""
    deed = DEEDS[op]
    return deed(hold, op, arg)


class Walk:
    """A run of a sound code, step by step; BadCode, Unsound, BadNames."""

    def __init__(self, code, names):
        states(code)
        check_names(names)
        self.rows = list(code)
        self.goals = label_places(code)
        self.hold = Hold(names)
        self.wards = []
        self.passed = []
        self.ending = ON
        self.here = self.come_to(0)

    def come_to(self, place):
        """Do what is done without a step, from the place on, and tell the place of the next step."""
        op, arg = self.rows[place][0], self.rows[place][1]
        while op in ("label", "try", "endtry"):
            if op == "try":
                self.wards.append((arg, len(self.hold.held)))
            elif op == "endtry":
                self.wards.pop()
            place += 1
            op, arg = self.rows[place][0], self.rows[place][1]
        return place

    def finish(self, ending):
        """End the run."""
        self.here = None
        self.ending = ending

    def take_fault(self, kind, line):
        """Let the uppermost guard take the fault, or end with it."""
        if not self.wards:
            self.finish(("fault", kind, line))
            return
        mark, depth = self.wards.pop()
        hold = self.hold
        hold.held = hold.held[:depth] + [kind]
        self.here = self.come_to(self.goals[mark])

    def step(self):
        """Do one step: True, or False behind the end."""
        if self.here is None:
            return False
        place = self.here
        op, arg, line = self.rows[place]
        self.passed.append(place)
        word, value = do_row(self.hold, op, arg)
        if word == "next":
            self.here = self.come_to(place + 1)
        elif word == "go":
            self.here = self.come_to(self.goals[arg])
        elif word == "fault":
            self.take_fault(value, line)
        else:
            self.finish((word, value))
        return True

    def place(self):
        """The place of the row of the next step, None behind the end."""
        return self.here

    def stack(self):
        """The values, the top last."""
        return list(self.hold.held)

    def names(self):
        """The names with their values."""
        return dict(self.hold.known)

    def guards(self):
        """The guards, tuples of a mark and a depth, the uppermost last."""
        return list(self.wards)

    def told(self):
        """All that was told."""
        return list(self.hold.said)

    def places(self):
        """The places of all steps."""
        return list(self.passed)

    def end(self):
        """How the run ended, ("on",) if it hasn't."""
        return self.ending

    def __len__(self):
        return len(self.passed)


def run(code, names, steps):
    """The triple of the end, all that was told, and how many steps were done; BadCode, Unsound, BadNames, BadNumber."""
    walk = Walk(code, names)
    check_steps(steps)
    while walk.place() is not None and len(walk) < steps:
        walk.step()
    return (walk.end(), walk.told(), len(walk))
