"""Swaps: orders made by as few swaps as can be, and codes whose groups of swaps are that short."""

from codemill.codes import is_number
from codemill.errors import BadOrder
from codemill.sound import states

# No swap reaches deeper than so many places, so no order has more.
MOST_PLACES = 9


def is_order(thing):
    """Whether the thing is an order."""
    if not isinstance(thing, list) or not 1 <= len(thing) <= MOST_PLACES:
        return False
    return all([is_number(number) for number in thing]) and sorted(thing) == list(range(len(thing)))


def exchanged(lying, number):
    """What lies at each place, from the top on, behind a swap by the number."""
    found = list(lying)
    found[0], found[number - 1] = found[number - 1], found[0]
    return found


def next_swap(lying, order):
    """The number of the swap that comes next on the way to the order, None if all lies as it tells."""
    # A swap that brings the top where it belongs is never lost; only where it lies right, another one must be fetched.
    if lying[0] != order[0]:
        return order.index(lying[0]) + 1
    wrong = [place for place in range(len(order)) if lying[place] != order[place]]
    return wrong[0] + 1 if wrong else None


def swaps_to(order):
    """As few swaps as can be that make the order."""
    lying = list(range(len(order)))
    found = []
    number = next_swap(lying, order)
    while number is not None:
        found.append(number)
        lying = exchanged(lying, number)
        number = next_swap(lying, order)
    return found


def fewest_swaps(order):
    """The numbers of as few swaps as can be that make the order; BadOrder."""
    if not is_order(order):
        raise BadOrder("no list of 1 to 9 numbers from 0 on, each once")
    return swaps_to(order)


def order_made(numbers):
    """The order that swaps by the numbers make."""
    lying = list(range(MOST_PLACES))
    for number in numbers:
        lying = exchanged(lying, number)
    return lying


def shortest(group):
    """The swaps of the group, or, if fewer do the same, such ones."""
    numbers = swaps_to(order_made([row[1] for row in group]))
    if len(numbers) == len(group):
        return group
    return [("swap", number, row[2]) for number, row in zip(numbers, group)]


def swapped(code):
    """The code in which no group of swaps is longer than it must be; BadCode, Unsound."""
    states(code)
    found = []
    group = []
    for row in code:
        if row[0] == "swap":
            group.append(row)
        else:
            found.extend(shortest(group))
            found.append(row)
            group = []
    return found + shortest(group)


def is_swapped(code):
    """Whether no group of swaps of the code is longer than it must be; BadCode, Unsound."""
    return len(swapped(code)) == len(code)
