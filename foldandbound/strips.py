"""Strips that are folded in any way (part 5)."""

from foldandbound.errors import Crossed
from foldandbound.forms import is_natural
from foldandbound.orders import folds_to

LONGEST_STRIP = 12


def is_strip_length(n):
    """Tell whether there are strips of n panels."""
    return 1 <= n <= LONGEST_STRIP


def is_strip(value):
    """Tell whether any value is a strip order."""
    if type(value) is not tuple or not is_strip_length(len(value)):
        return False
    if not all(is_natural(panel) for panel in value):
        return False
    return sorted(value) == list(range(len(value)))


def ends_of_creases(order):
    """Return the list of the two places, the upper one first, that each crease of a strip joins."""
    places = {panel: at for at, panel in enumerate(order)}
    pairs = [(places[i], places[i + 1]) for i in range(len(order) - 1)]
    return [(min(pair), max(pair)) for pair in pairs]


def lies_between(place, ends):
    """Tell whether a place lies strictly between two others."""
    return ends[0] < place < ends[1]


def crossing(order):
    """Return the first pair of creases of one edge that cross, or None."""
    ends = ends_of_creases(order)
    for i, (upper, lower) in enumerate(ends):
        for j in range(i + 2, len(ends), 2):
            if lies_between(upper, ends[j]) != lies_between(lower, ends[j]):
                return (i, j)
    return None


def grown_without_test(order):
    """Return what `grown` returns, for an order that has no crossing."""
    last = len(order) - 1
    # The new crease may cross only those of its own edge: last - 2, last - 4, ..
    ends = ends_of_creases(order)[last % 2::2]
    around = [pair for pair in ends if lies_between(order.index(last), pair)]
    found = []
    for gap in range(len(order) + 1):
        if [pair for pair in ends if pair[0] < gap <= pair[1]] == around:
            found.append(order[:gap] + (last + 1,) + order[gap:])
    return sorted(found)


def grown(order):
    """Return the ascending list of the strip orders with one panel more at the end that can be folded."""
    if not is_strip_length(len(order) + 1) or crossing(order) is not None:
        return []
    return grown_without_test(order)


def strip_orders(n):
    """Return the ascending list of all strip orders of n panels that can be folded."""
    if not is_strip_length(n):
        return []
    found = [()]
    for _ in range(n):
        found = [longer for order in found for longer in grown_without_test(order)]
    return sorted(found)


def kinds_without_test(order):
    """Return the kinds of the creases of an order that has no crossing."""
    places = {panel: at for at, panel in enumerate(order)}
    kinds = []
    for i in range(len(order) - 1):
        front_up = i % 2 == 0
        next_higher = places[i + 1] < places[i]
        kinds.append("valley" if front_up == next_higher else "mountain")
    return tuple(kinds)


def shown(order, kinds):
    """Tell whether a strip that was folded with such creases can lie in an order."""
    return crossing(order) is None and kinds_without_test(order) == kinds


def kinds_of(order):
    """Return the kinds of the creases of a strip that lies in an order."""
    crossed = crossing(order)
    if crossed is not None:
        raise Crossed(crossed[0], crossed[1])
    return kinds_without_test(order)


def by_simple(order):
    """Tell whether folds of all layers together give an order."""
    return folds_to((1, len(order)), tuple((0, panel) for panel in order)) is not None
