"""Counters that are wrong, and what they still tell (part 17).

A distance from a count to another one is the greatest difference, of the second less the first,
that a row of bounds allows. -1 stands for the number 0 in the place of a count.
"""

from foldandbound.errors import NoCounts
from foldandbound.forms import is_between, is_integer, is_tagged, is_tuple_of

MOST_BOUNDS = 60
ZERO = -1


def is_bound(n, value):
    """Tell whether any value is a bound for n counts."""
    if not is_tuple_of(value, 3) or not is_integer(value[2]):
        return False
    i, j, _ = value
    return is_between(i, ZERO, n - 1) and is_between(j, ZERO, n - 1) and i != j


def is_counters(n, value):
    """Tell whether any value is a tuple of at most 60 bounds for n counts."""
    if type(value) is not tuple or len(value) > MOST_BOUNDS:
        return False
    return all(is_bound(n, bound) for bound in value)


def told_bounds(told, wrong):
    """Return the tuple of the bounds for told counts that are off by at most so much."""
    bounds = []
    for i, number in enumerate(told):
        bounds.append((ZERO, i, number + wrong))
        bounds.append((i, ZERO, wrong - number))
    return tuple(bounds)


def cycle_from(bounds, last, at):
    """Return the cycle of bounds that is met by going back from a count.

    `last` tells for each count by which bound it was made less the last time.
    """
    met = {}
    numbers = []
    while at not in met:
        met[at] = len(numbers)
        numbers.append(last[at])
        at = bounds[last[at]][0]
    return tuple(numbers[met[at]:][::-1])


def counts_paper(n, bounds):
    """Return the paper with a tuple that fits the bounds, or with a cycle of bounds that contradict each other."""
    numbers = {k: 0 for k in range(ZERO, n)}
    last = {}
    changed = None
    # A row of bounds without a cycle has at most n of them: who is made less after so many rounds is on none.
    for _ in range(n + 1):
        changed = None
        for number, (i, j, most) in enumerate(bounds):
            if numbers[i] + most < numbers[j]:
                numbers[j] = numbers[i] + most
                last[j] = number
                changed = j
    if changed is not None:
        return ("cycle", cycle_from(bounds, last, changed))
    return ("fits", tuple(numbers[k] - numbers[ZERO] for k in range(n)))


def fits_bounds(bounds, numbers):
    """Tell whether all bounds hold for a tuple of integers."""
    counts = {k: number for k, number in enumerate(numbers)}
    counts[ZERO] = 0
    return all(counts[j] <= counts[i] + most for i, j, most in bounds)


def is_contradiction(bounds, value):
    """Tell whether any value is a cycle of bounds that contradict each other."""
    if type(value) is not tuple or not value:
        return False
    if not all(is_between(number, 0, len(bounds) - 1) for number in value):
        return False
    for at, number in enumerate(value):
        if bounds[value[at - 1]][1] != bounds[number][0]:
            return False
    return sum([bounds[number][2] for number in value]) < 0


def check_counts(n, bounds, value):
    """Tell whether any value is a right counts paper."""
    if is_tagged(value, "fits", 2):
        numbers = value[1]
        if not is_tuple_of(numbers, n) or not all(is_integer(number) for number in numbers):
            return False
        return fits_bounds(bounds, numbers)
    return is_tagged(value, "cycle", 2) and is_contradiction(bounds, value[1])


def must_fit(n, bounds):
    """Raise NoCounts if no tuple fits the bounds."""
    if counts_paper(n, bounds)[0] != "fits":
        raise NoCounts("the bounds contradict each other")


def distances(bounds, start):
    """Return the dict from the counts that have a distance from a count to it; the bounds must fit something."""
    found = {start: 0}
    changed = True
    while changed:
        changed = False
        for i, j, most in bounds:
            if i in found and (j not in found or found[i] + most < found[j]):
                found[j] = found[i] + most
                changed = True
    return found


def all_distances(n, bounds):
    """Return the dict from each count to the dict of the distances from it."""
    return {start: distances(bounds, start) for start in range(ZERO, n)}


def ranges(n, bounds):
    """Return the list of the least and the greatest integer of each count, or None where there is none."""
    must_fit(n, bounds)
    highest = distances(bounds, ZERO)
    # With each bound turned round, the distance from 0 is the one to it.
    lowest = distances([(j, i, most) for i, j, most in bounds], ZERO)
    return [(-lowest[k] if k in lowest else None, highest.get(k)) for k in range(n)]


def tightest(n, bounds):
    """Return the ascending tuple of the tightest bounds that hold for all tuples that fit."""
    must_fit(n, bounds)
    found = []
    for i, distances_from in all_distances(n, bounds).items():
        found.extend([(i, j, most) for j, most in distances_from.items() if i != j])
    return tuple(sorted(found))


def needless_bounds(n, bounds):
    """Return the ascending list of the bounds without which, each alone, the same tuples fit."""
    must_fit(n, bounds)
    needless = []
    for number, (i, j, most) in enumerate(bounds):
        found = distances(bounds[:number] + bounds[number + 1:], i)
        if j in found and found[j] <= most:
            needless.append(number)
    return needless


def least_error(n, bounds, told):
    """Return the least error of told counts for which a tuple fits both the bounds and them."""
    must_fit(n, bounds)
    least = 0
    for i, distances_from in all_distances(n, bounds).items():
        for j, most in distances_from.items():
            start = 0 if i == ZERO else told[i]
            end = 0 if j == ZERO else told[j]
            # What is told for both is off by this much in all; 0 itself is off by nothing.
            gap = end - start - most
            parts = 1 if ZERO in (i, j) else 2
            least = max(least, -(-gap // parts))
    return least
