"""The machine by the table: it runs units, and finds what takes a fault in the table of guards alone."""

from codemill.machine import ON, Hold, check_names, check_steps, do_row
from codemill.units import guard_at, listing


class Engine:
    """A run of units, step by step."""

    def __init__(self, units, names):
        self.whole = units
        self.hold = Hold(names)
        self.ending = ON
        self.here = 0
        rows = listing(units)
        behind = [first for first, op, arg, line in rows[1:]] + [len(units)]
        # By its first unit each row, and the first unit behind it.
        self.listed = {row[0]: (row, after) for row, after in zip(rows, behind)}

    def take_fault(self, kind, line):
        """Go on where the table of guards tells, or end with the fault."""
        guard = guard_at(self.whole, self.here)
        if guard is None:
            self.ending = ("fault", kind, line)
            return
        goal, depth = guard
        hold = self.hold
        hold.held = hold.held[:depth] + [kind]
        self.here = goal

    def do_one(self):
        """Do one row."""
        (first, op, arg, line), behind = self.listed[self.here]
        word, value = do_row(self.hold, op, arg)
        if word == "next":
            self.here = behind
        elif word == "go":
            self.here = arg
        elif word == "fault":
            self.take_fault(value, line)
        else:
            self.ending = (word, value)


def run_units(units, names, steps):
    """The triple of the end, all that was told, and how many steps were done; BadNames, BadNumber."""
    check_names(names)
    check_steps(steps)
    engine = Engine(units, names)
    done = 0
    while engine.ending == ON and done < steps:
        engine.do_one()
        done += 1
    return (engine.ending, list(engine.hold.said), done)
