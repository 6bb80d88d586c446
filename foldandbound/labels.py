"""Labels that are printed together on plates (part 13)."""

from foldandbound.forms import is_between, is_natural, is_tuple_of


def spare(labels, printing):
    """Return the list of the numbers of labels that are printed beyond the wanted ones."""
    found = [-wanted for wanted in labels]
    for filled, runs in printing:
        for label in filled:
            found[label] += runs
    return found


def is_plate_run(labels, slots, value):
    """Tell whether any value is a plate of a printing with its runs."""
    if not is_tuple_of(value, 2) or not is_natural(value[1]) or value[1] == 0:
        return False
    filled = value[0]
    if type(filled) is not tuple or len(filled) > slots:
        return False
    return all(is_between(label, 0, len(labels) - 1) for label in filled) and list(filled) == sorted(filled)


def is_printing(labels, slots, value):
    """Tell whether any value is a printing that serves the labels."""
    if type(value) is not tuple or not all(is_plate_run(labels, slots, pair) for pair in value):
        return False
    return min(spare(labels, value)) >= 0


def rounded_up(number, by):
    """Return a number divided by another one, rounded up."""
    return -(-number // by)


def least_plates(labels, slots):
    """Return the fewest plates of a printing: each label needs a slot."""
    return rounded_up(len(labels), slots)


def ways_to_serve(wanted, slots, first, second):
    """Return the list of the pairs of slots on two plates with some runs that serve one label.

    The second plate has as few of them as it can, or no runs: then all slots are on the first one.
    """
    ways = []
    for some in range(slots + 1):
        left = max(0, wanted - some * first)
        if left == 0:
            ways.append((some, 0))
            break
        if second > 0 and rounded_up(left, second) <= slots:
            ways.append((some, rounded_up(left, second)))
    return ways


def slots_needed(labels, slots, first, second):
    """Return a row for no label, one, two and so on, in the order of the labels.

    At each place k, a row tells the fewest slots of the second plate that serve so many labels
    beside at most k slots of the first one, or None if they cannot be served so.
    """
    row = [0] * (slots + 1)
    rows = [row]
    for wanted in labels:
        ways = ways_to_serve(wanted, slots, first, second)
        longer = []
        for k in range(slots + 1):
            counts = [row[k - some] + more for some, more in ways if some <= k and row[k - some] is not None]
            longer.append(min(counts) if counts and min(counts) <= slots else None)
        row = longer
        rows.append(row)
    return rows


def can_serve(labels, slots, first, second):
    """Tell whether two plates with some runs can serve all labels."""
    if slots * (first + second) < sum(labels):
        return False
    return slots_needed(labels, slots, first, second)[-1][slots] is not None


def least_runs(labels, slots):
    """Return the least runs of one plate that serves all labels."""
    low, high = 1, max(labels)
    while low < high:
        middle = (low + high) // 2
        if can_serve(labels, slots, middle, 0):
            high = middle
        else:
            low = middle + 1
    return low


def best_runs(labels, slots, plates):
    """Return the runs of two plates, with the least sum, that can serve all labels, or None.

    The runs of the second one are 0 if it is not needed.
    """
    if len(labels) > slots * plates:
        return None
    best = (max(labels), max(labels))
    if len(labels) <= slots:
        best = (least_runs(labels, slots), 0)
    if plates == 1:
        return best
    # The less the first plate runs, the more must the second one.
    first, second = best[0], 0
    while first >= second:
        if first + second >= sum(best):
            first -= 1
        elif can_serve(labels, slots, first, second):
            best = (first, second)
        else:
            second += 1
    return best


def fewest_sheets(labels, slots, plates):
    """Return the fewest sheets in all of a printing with so many plates at most, or None."""
    runs = best_runs(labels, slots, plates)
    return None if runs is None else sum(runs)


def filled_plates(labels, slots, first, second):
    """Return the labels in the slots of two plates with some runs that can serve all labels."""
    rows = slots_needed(labels, slots, first, second)
    plates = ([], [])
    k = slots
    for label in range(len(labels) - 1, -1, -1):
        for some, more in ways_to_serve(labels[label], slots, first, second):
            before = rows[label][k - some] if some <= k else None
            if before is not None and before + more == rows[label + 1][k]:
                plates[0].extend([label] * some)
                plates[1].extend([label] * more)
                k -= some
                break
    return [tuple(plate[::-1]) for plate in plates]


def best_printing(labels, slots, plates):
    """Return a printing with the fewest sheets in all and so many plates at most, or None."""
    runs = best_runs(labels, slots, plates)
    if runs is None:
        return None
    filled = filled_plates(labels, slots, runs[0], runs[1])
    return tuple((plate, many) for plate, many in zip(filled, runs) if many > 0)
