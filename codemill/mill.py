"""The mill: codes bettered in the chosen ways, over and over."""

from codemill.fold import folded
from codemill.names import check_given, quickened
from codemill.prune import pruned
from codemill.sound import states
from codemill.swaps import swapped
from codemill.thread import threaded


def milled_once(code, fold, thread, prune, swaps, given):
    """The code bettered once in each of the chosen ways."""
    found = list(code)
    if fold:
        found = folded(found)
    if thread:
        found = threaded(found)
    if prune:
        found = pruned(found)
    if swaps:
        found = swapped(found)
    if given is not None:
        found = quickened(found, given=given)
    return found


def milled(code, *, fold=True, thread=True, prune=True, swaps=True, given=None):
    """The code bettered in the chosen ways till nothing of them is left to do; BadCode, Unsound, BadNames."""
    states(code)
    if given is not None:
        check_given(given)
    found = list(code)
    better = milled_once(found, fold, thread, prune, swaps, given)
    # It ends: no way makes a code longer, what is put in is always plainer than what it replaces (a jump or a drop for
    # a conditional jump, a push for a copy, a quick for a load), and what was threaded once is so no second time.
    while better != found:
        found = better
        better = milled_once(found, fold, thread, prune, swaps, given)
    return found
