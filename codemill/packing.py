"""Packing: the tables of guards and of lines as lists of small numbers, and back."""

from codemill.codes import is_number_within
from codemill.digits import digits_of, number_of
from codemill.errors import BadBytes
from codemill.tables import is_guard_table, is_line_table

BASE = 64
MOST_NUMBER = 9999


def check_table(thing):
    """Refuse what is no table of guards that can be packed, by BadBytes."""
    if not is_guard_table(thing, MOST_NUMBER):
        raise BadBytes("no table of guards")


def check_lines(thing):
    """Refuse what is no table of lines, by BadBytes."""
    if not is_line_table(thing):
        raise BadBytes("no table of lines")


def packed(numbers):
    """The numbers packed, one behind the other."""
    parts = []
    for number in numbers:
        digits = digits_of(number, BASE)
        parts.extend([digit + BASE for digit in digits[:-1]])
        parts.append(digits[-1])
    return parts


def folded_sign(number):
    """A number, either side of 0, as one from 0 on."""
    return 2 * number if number >= 0 else -2 * number - 1


def unfolded_sign(number):
    """The number, either side of 0, that is told as one from 0 on."""
    return number // 2 if number % 2 == 0 else -(number + 1) // 2


def pack_table(table):
    """The table of guards, packed; BadBytes."""
    check_table(table)
    return packed([number for begin, end, goal, depth in table for number in (begin, end - begin, goal, depth)])


def pack_lines(lines):
    """The table of lines, packed; BadBytes."""
    check_lines(lines)
    numbers = []
    ahead = 0
    for many, line in lines:
        numbers.extend([many, folded_sign(line - ahead)])
        ahead = line
    return packed(numbers)


def unpacked(parts):
    """The numbers that the list packs; BadBytes."""
    if not isinstance(parts, list) or not all([is_number_within(part, 0, 2 * BASE - 1) for part in parts]):
        raise BadBytes("no list of numbers below 128")
    numbers = []
    digits = []
    for part in parts:
        digits.append(part % BASE)
        if part < BASE:
            numbers.append(number_of(digits, BASE))
            digits = []
    # What has needless digits, or is cut off in the midst of a number, packs otherwise.
    if packed(numbers) != parts:
        raise BadBytes("packed otherwise")
    return numbers


def in_rows(numbers, many):
    """The numbers in rows of so many; BadBytes, if some are left over."""
    if len(numbers) % many != 0:
        raise BadBytes("cut off in the midst of an entry")
    return [numbers[at:at + many] for at in range(0, len(numbers), many)]


def unpack_table(parts):
    """The table of guards that the list packs; BadBytes."""
    rows = in_rows(unpacked(parts), 4)
    table = tuple([(begin, begin + many, goal, depth) for begin, many, goal, depth in rows])
    check_table(table)
    return table


def unpack_lines(parts):
    """The table of lines that the list packs; BadBytes."""
    entries = []
    line = 0
    for many, change in in_rows(unpacked(parts), 2):
        line += unfolded_sign(change)
        entries.append((many, line))
    lines = tuple(entries)
    check_lines(lines)
    return lines
