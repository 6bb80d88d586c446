"""Strips that are cut from reels (part 26).

What is used is told by a pair: the number of the reels, and the length that is used of the last one.
"""

from foldandbound.forms import is_integer, is_same
from foldandbound.tables import counts_up_to


def is_reel(length, widths, value):
    """Tell whether any value is a reel of a plan."""
    if type(value) is not tuple or not all(is_integer(width) and width in widths for width in value):
        return False
    return list(value) == sorted(value) and 1 <= sum(value) <= length


def is_reel_plan(length, widths, numbers, value):
    """Tell whether any value is a reel plan that serves."""
    if type(value) is not tuple or not all(is_reel(length, widths, reel) for reel in value):
        return False
    for width, number in zip(widths, numbers):
        if sum([reel.count(width) for reel in value]) < number:
            return False
    return True


def with_strip(length, use, width):
    """Return what is used if one strip more is cut."""
    reels, used = use
    return (reels, used + width) if used + width <= length else (reels + 1, width)


def one_less(counts, k):
    """Return counts with one strip less of a width."""
    return counts[:k] + (counts[k] - 1,) + counts[k + 1:]


def uses(length, widths, numbers):
    """Return the dict from counts of strips to what is used at least for them."""
    found = {}
    for counts in counts_up_to(numbers):
        kinds = [k for k, count in enumerate(counts) if count > 0]
        if kinds:
            found[counts] = min([with_strip(length, found[one_less(counts, k)], widths[k]) for k in kinds])
        else:
            found[counts] = (0, length)
    return found


def reel_table(length, widths, numbers):
    """Return the reel table of some strips."""
    found = uses(length, widths, numbers)
    return tuple((counts, found[counts][0], found[counts][1]) for counts in counts_up_to(numbers))


def check_reel_table(length, widths, numbers, value):
    """Tell whether any value is the reel table of some strips."""
    return is_same(value, reel_table(length, widths, numbers))


def fewest_reels(length, widths, numbers):
    """Return the fewest reels of a plan that serves."""
    return uses(length, widths, numbers)[tuple(numbers)][0]


def last_strip(length, widths, found, counts):
    """Return the number of a width of which a strip may be cut last, if as little is used as can be."""
    for k, width in enumerate(widths):
        if counts[k] > 0 and with_strip(length, found[one_less(counts, k)], width) == found[counts]:
            return k
    return None


def best_reel_plan(length, widths, numbers):
    """Return a plan that serves with the fewest reels."""
    found = uses(length, widths, numbers)
    counts = tuple(numbers)
    reels = [[] for _ in range(found[counts][0])]
    # From the strip that is cut last back to the first one: the number of reels then tells the reel.
    while sum(counts) > 0:
        k = last_strip(length, widths, found, counts)
        reels[found[counts][0] - 1].append(widths[k])
        counts = one_less(counts, k)
    return tuple(tuple(sorted(reel)) for reel in reels)


def least_waste(length, widths, numbers):
    """Return the length that the fewest reels leave over if just the wanted strips are cut."""
    wanted = sum([width * number for width, number in zip(widths, numbers)])
    return fewest_reels(length, widths, numbers) * length - wanted
