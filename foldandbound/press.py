"""Orders on a press that may fail (part 15).

The press loses at most `times * minutes` minutes to failures: this is here called the loss.
"""

from foldandbound.forms import is_between, is_natural, is_same, is_tagged, is_tuple_of, is_word

MOST_ORDERS = 10


def is_order_of_press(value):
    """Tell whether any value is an order."""
    if not is_tuple_of(value, 4) or not is_word(value[0]):
        return False
    _, arrival, minutes, due = value
    return is_natural(arrival) and is_natural(minutes) and minutes >= 1 and is_natural(due)


def is_orders(value):
    """Tell whether any value is a tuple of at most 10 orders with different words."""
    if type(value) is not tuple or len(value) > MOST_ORDERS:
        return False
    if not all(is_order_of_press(order) for order in value):
        return False
    return len({order[0] for order in value}) == len(value)


def in_sequence(orders, sequence):
    """Return the list of the orders in a sequence of their words."""
    by_word = {order[0]: order for order in orders}
    return [by_word[word] for word in sequence]


def is_sequence(orders, value):
    """Tell whether any value is a sequence of all orders."""
    if not is_tuple_of(value, len(orders)) or not all(is_word(word) for word in value):
        return False
    return sorted(value) == sorted([order[0] for order in orders])


def end_after(end, order):
    """Return the minute in which an order ends that is printed when the press is free after another end."""
    return max(end, order[1]) + order[2]


def ends_with(orders, sequence, failures):
    """Return the list of the minutes in which the orders end in a course of failures."""
    lost = [0] * len(orders)
    for place, minutes in failures:
        lost[place] += minutes
    found = []
    end = 0
    for place, order in enumerate(in_sequence(orders, sequence)):
        end = end_after(end, order) + lost[place]
        found.append(end)
    return found


def ends(orders, sequence):
    """Return the list of the minutes in which the orders end if nothing fails."""
    return ends_with(orders, sequence, ())


def spare_minutes(orders, sequence, failures):
    """Return the list of the minutes that the orders end before they are due, below 0 if they are late."""
    found = ends_with(orders, sequence, failures)
    return [order[3] - end for order, end in zip(in_sequence(orders, sequence), found)]


def first_places(orders, sequence):
    """Return, for each place, the first one at which a failure makes the order at this place later by all of it.

    Between both the press does not wait for paper.
    """
    found = []
    end = 0
    for place, order in enumerate(in_sequence(orders, sequence)):
        waits = order[1] > end
        found.append(place if waits or place == 0 else found[-1])
        end = end_after(end, order)
    return found


def late_failures(orders, sequence, times, minutes):
    """Return the best course of failures in which some order is late, or None if there is none."""
    spare = spare_minutes(orders, sequence, ())
    if not spare or min(spare) >= times * minutes:
        return None
    loss = min(spare) + 1
    if loss <= 0:
        return ()
    many = -(-loss // minutes)
    # With so few failures and so little lost, none of it may be lost while the press waits anyway.
    starts = first_places(orders, sequence)
    place = min([start for start, left in zip(starts, spare) if left + 1 == loss])
    return ((place, loss - (many - 1) * minutes),) + ((place, minutes),) * (many - 1)


def latest_ends(orders, sequence, times, minutes):
    """Return the tuple of the latest minutes in which the orders can end: if all failures are at their own place."""
    return tuple(end + times * minutes for end in ends(orders, sequence))


def kept_paper(orders, sequence, times, minutes):
    """Return the paper that a sequence is kept, or a course of failures in which some order is late."""
    failures = late_failures(orders, sequence, times, minutes)
    if failures is None:
        return ("kept", latest_ends(orders, sequence, times, minutes))
    return ("late", failures)


def is_failure(orders, minutes, value):
    """Tell whether any value is a failure of at most so many minutes at a place in a sequence."""
    if not is_tuple_of(value, 2):
        return False
    return is_between(value[0], 0, len(orders) - 1) and is_between(value[1], 0, minutes)


def is_failures(orders, times, minutes, value):
    """Tell whether any value is a course of failures that can be."""
    if type(value) is not tuple or len(value) > times:
        return False
    if not all(is_failure(orders, minutes, failure) for failure in value):
        return False
    places = [place for place, _ in value]
    return places == sorted(places)


def is_kept(orders, sequence, loss):
    """Tell whether all orders of a sequence end in time, whatever fails for so many minutes in all."""
    return all(spare >= loss for spare in spare_minutes(orders, sequence, ()))


def check_kept(orders, sequence, times, minutes, value):
    """Tell whether any value is a right paper about a sequence."""
    if is_tagged(value, "kept", 2):
        kept = is_kept(orders, sequence, times * minutes)
        return kept and is_same(value[1], latest_ends(orders, sequence, times, minutes))
    if not is_tagged(value, "late", 2) or not is_failures(orders, times, minutes, value[1]):
        return False
    return any(spare < 0 for spare in spare_minutes(orders, sequence, value[1]))


def least_beginnings(orders, loss):
    """Return the dict from sets of orders that can be printed first to the least end and the last order then.

    A set is told by a number that has a bit for each order in it.
    """
    found = {0: (0, None)}
    # A set has a greater number than each of its parts, so all of these come before it.
    for some in range(1, 1 << len(orders)):
        least = None
        for k, order in enumerate(orders):
            before = found.get(some - (1 << k)) if some >> k & 1 else None
            if before is not None:
                end = end_after(before[0], order)
                if end + loss <= order[3] and (least is None or end < least[0]):
                    least = (end, k)
        if least is not None:
            found[some] = least
    return found


def words_of(orders, some):
    """Return the ascending tuple of the words of a set of orders."""
    return tuple(sorted([order[0] for k, order in enumerate(orders) if some >> k & 1]))


def table_of(orders, beginnings):
    """Return the ascending tuple of the words of each set with its least end."""
    return tuple(sorted([(words_of(orders, some), least[0]) for some, least in beginnings.items()]))


def sequence_paper(orders, times, minutes):
    """Return the paper with a sequence that is kept, or with the table of all beginnings."""
    beginnings = least_beginnings(orders, times * minutes)
    some = (1 << len(orders)) - 1
    if some not in beginnings:
        return ("none", table_of(orders, beginnings))
    words = []
    while some > 0:
        k = beginnings[some][1]
        words.append(orders[k][0])
        some -= 1 << k
    return ("sequence", tuple(words[::-1]))


def check_sequence(orders, times, minutes, value):
    """Tell whether any value is a right paper about all sequences of some orders."""
    loss = times * minutes
    if is_tagged(value, "sequence", 2):
        return is_sequence(orders, value[1]) and is_kept(orders, value[1], loss)
    if not is_tagged(value, "none", 2):
        return False
    beginnings = least_beginnings(orders, loss)
    if (1 << len(orders)) - 1 in beginnings:
        return False
    return is_same(value[1], table_of(orders, beginnings))


def by_due(orders):
    """Return the sequence in ascending order of the due minutes, and of the words where these are equal."""
    return tuple(word for _, word in sorted([(order[3], order[0]) for order in orders]))


def most_failures(orders, sequence, minutes):
    """Return the greatest number of failures for which a sequence is kept, or -1 if there is none."""
    spare = min(spare_minutes(orders, sequence, ()))
    return spare // minutes if spare >= 0 else -1
