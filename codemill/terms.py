"""Terms: what is known of values that aren't known themselves, each told by a number of its own.

Terms with one number have one value, whatever the names are. What is told of the stack and the names is so of a
beginning that all terms share.
"""

from codemill.values import is_true, made_of_one, made_of_two


class Terms:
    """All terms that came up: `shapes`, by their numbers, and `numbers`, by their shapes.

    A shape is a tuple of a word and two things more: a whole term within it would nest without bounds, so its number
    stands there.
    """

    def __init__(self):
        self.shapes = []
        self.numbers = {}

    def shaped(self, word, first=None, second=None):
        """The term of this shape."""
        shape = (word, first, second)
        if shape not in self.numbers:
            self.numbers[shape] = len(self.shapes)
            self.shapes.append(shape)
        return self.numbers[shape]

    def constant(self, value):
        """The term whose value is known."""
        # 1 and True are one key to Python, so a key tells whether it is a truth.
        return self.shaped("constant", isinstance(value, bool), value)

    def is_known(self, term):
        """Whether the term's value is known."""
        return self.shapes[term][0] == "constant"

    def value(self, term):
        """The term's value, where it is known."""
        return self.shapes[term][2]

    def of_one(self, op, term):
        """What neg or not makes of the term, None if that may fault."""
        if self.is_known(term):
            kind, value = made_of_one(op, self.value(term))
            return self.constant(value) if kind is None else None
        return self.shaped("not", term) if op == "not" else None

    def of_two(self, op, first, second):
        """What the op makes of both terms, None if that may fault."""
        if self.is_known(first) and self.is_known(second):
            kind, value = made_of_two(op, self.value(first), self.value(second))
            return self.constant(value) if kind is None else None
        return self.shaped("same", first, second) if op == "same" else None

    def unturned(self, term):
        """The term within all nots, and whether it is turned by them, as a pair."""
        turned = False
        word, within, other = self.shapes[term]
        while word == "not":
            term = within
            turned = not turned
            word, within, other = self.shapes[term]
        return (term, turned)

    def truth(self, term, truths):
        """Whether the term is true, by these truths of terms that aren't turned; None if that isn't known."""
        within, turned = self.unturned(term)
        if self.is_known(within):
            return is_true(self.value(within)) != turned
        if within in truths:
            return truths[within] != turned
        return None
