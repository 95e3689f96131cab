"""Numbers written by a base."""


def digits_of(number, base):
    """The digits of a number from 0 on by the base, as few as can be, at least one, the last one last."""
    digits = [number % base]
    left = number // base
    while left > 0:
        digits.insert(0, left % base)
        left = left // base
    return digits


def number_of(digits, base):
    """The number that the digits write by the base."""
    number = 0
    for digit in digits:
        number = number * base + digit
    return number
