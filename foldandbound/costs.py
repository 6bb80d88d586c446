"""Costs that are divided, prices and offers (part 18)."""

from foldandbound.errors import NoWeights

MOST_FROM_ONE = 200


def shares(total, weights):
    """Return the list of the shares of a total by some weights."""
    if not weights:
        raise NoWeights("there is nobody to divide among")
    whole = sum(weights)
    if whole == 0:
        return [total] + [0] * (len(weights) - 1)
    found = [total * weight // whole for weight in weights]
    left = total - sum(found)
    remainders = sorted([(-(total * weight % whole), k) for k, weight in enumerate(weights)])
    for _, k in remainders[:left]:
        found[k] += 1
    return found


def price(bands, copies):
    """Return the cents of a number of copies, all at the one price of this number."""
    cents = [each for number, each in bands if number <= copies]
    return copies * cents[-1]


def best_number(prices, rest, copies):
    """Return the best triple of the cents in all, the copies in all and the number of them from one offer.

    At place k, `prices` tells the cents of k copies from this offer, and `rest` the cents and the
    copies of the best order of at least k copies from those behind it, or None.
    """
    best = None
    for number, cents in enumerate(prices):
        behind = rest[max(0, copies - number)]
        if behind is not None:
            triple = (cents + behind[0], number + behind[1], number)
            if best is None or triple < best:
                best = triple
    return best


def cheapest(offers, copies):
    """Return the tuple of the numbers of copies from each offer that are cheapest together."""
    rest = [(0, 0)] + [None] * copies
    rows = []
    for bands in offers[::-1]:
        prices = [price(bands, number) for number in range(MOST_FROM_ONE + 1)]
        row = [best_number(prices, rest, wanted) for wanted in range(copies + 1)]
        rows.append(row)
        rest = row
    chosen = []
    wanted = copies
    for row in rows[::-1]:
        chosen.append(row[wanted][2])
        wanted = max(0, wanted - chosen[-1])
    return tuple(chosen)
