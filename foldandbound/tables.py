"""Most from a sheet: kinds of pieces, tables of values, and plans (part 11).

A size is here a pair `(width, height)` of a part.
"""

from foldandbound.forms import is_between, is_integer, is_one_of, is_tagged, is_tuple_of
from foldandbound.layouts import CUT_AXES


def shapes_of(kind, turning):
    """Return the list of the sizes that a kind has, each at the number of its quarter turns."""
    width, height = kind[:2]
    return [(width, height), (height, width)] if turning else [(width, height)]


def values_by_size(kinds, turning):
    """Return the dict from the sizes of kinds to the greatest value of a kind that is so large."""
    values = {}
    for kind in kinds:
        for shape in shapes_of(kind, turning):
            values[shape] = max(values.get(shape, 0), kind[2])
    return values


def closed_number(values, table, size):
    """Return the number that belongs to a part, by the numbers of lesser parts in a table."""
    width, height = size
    best = values.get(size, 0)
    row = table[height - 1]
    # The part of a cut that is the lesser one is at most half of the whole.
    for at in range(1, width // 2 + 1):
        best = max(best, row[at - 1] + row[width - at - 1])
    for at in range(1, height // 2 + 1):
        best = max(best, table[at - 1][width - 1] + table[height - at - 1][width - 1])
    return best


def value_table(kinds, turning, board):
    """Return the closed table of a board."""
    values = values_by_size(kinds, turning)
    table = []
    for height in range(1, board[1] + 1):
        row = []
        table.append(row)
        for width in range(1, board[0] + 1):
            row.append(closed_number(values, table, (width, height)))
    return tuple(tuple(numbers) for numbers in table)


def is_table(board, value):
    """Tell whether any value has the form of a table for a board."""
    if not is_tuple_of(value, board[1]):
        return False
    return all(is_tuple_of(row, board[0]) and all(is_integer(number) for number in row) for row in value)


def check_table(kinds, turning, board, value):
    """Tell whether any value is the closed table of a board."""
    if not is_table(board, value):
        return False
    values = values_by_size(kinds, turning)
    for at, row in enumerate(value):
        for place, number in enumerate(row):
            if number != closed_number(values, value, (place + 1, at + 1)):
                return False
    return True


def cut_size(size, axis, at):
    """Return the sizes of the two parts into which a line cuts a part."""
    width, height = size
    if axis == "x":
        return ((at, height), (width - at, height))
    return ((width, at), (width, height - at))


def number_for(table, size):
    """Return the number of a table that belongs to a part."""
    return table[size[1] - 1][size[0] - 1]


def best_leaf(kinds, turning, size, wanted):
    """Return a plan of one node with a wanted value for a part, or None."""
    if wanted == 0:
        return ("waste",)
    for k, kind in enumerate(kinds):
        for turns, shape in enumerate(shapes_of(kind, turning)):
            if shape == size and kind[2] == wanted:
                return ("kind", k, turns)
    return None


def best_line(table, size):
    """Return a line `(axis, at)` of a part whose two parts have together the number of the part.

    Of the lines of an axis it is the one next to the middle, so that plans are not nested deep.
    """
    for axis, length in zip(CUT_AXES, size):
        for at in range(length // 2, 0, -1):
            low, high = cut_size(size, axis, at)
            if number_for(table, low) + number_for(table, high) == number_for(table, size):
                return (axis, at)
    return None


def plan_from(kinds, turning, table, size):
    """Return a plan for a part with the value that the closed table tells."""
    leaf = best_leaf(kinds, turning, size, number_for(table, size))
    if leaf is not None:
        return leaf
    axis, at = best_line(table, size)
    low, high = cut_size(size, axis, at)
    low_plan = plan_from(kinds, turning, table, low)
    return ("cut", axis, at, low_plan, plan_from(kinds, turning, table, high))


def best_plan(kinds, turning, board):
    """Return a plan with the greatest value for a board."""
    return plan_from(kinds, turning, value_table(kinds, turning, board), board)


def is_plan_leaf(kinds, turning, size, value):
    """Tell whether any value is a plan of one node for a part."""
    if is_tagged(value, "waste", 1):
        return True
    if not is_tagged(value, "kind", 3) or not is_between(value[1], 0, len(kinds) - 1):
        return False
    shapes = shapes_of(kinds[value[1]], turning)
    return is_between(value[2], 0, len(shapes) - 1) and shapes[value[2]] == size


def is_plan_cut(size, value):
    """Tell whether any value has the form of a cut of a part, whatever its plans are."""
    if not is_tagged(value, "cut", 5) or not is_one_of(value[1], CUT_AXES):
        return False
    length = size[0] if value[1] == "x" else size[1]
    return is_between(value[2], 1, length - 1)


def check_plan(kinds, turning, board, value):
    """Tell whether any value is a plan for a board, with any value."""
    waiting = [(board, value)]
    while waiting:
        size, plan = waiting.pop()
        if is_plan_leaf(kinds, turning, size, plan):
            continue
        if not is_plan_cut(size, plan):
            return False
        _, axis, at, low, high = plan
        low_size, high_size = cut_size(size, axis, at)
        waiting.append((low_size, low))
        waiting.append((high_size, high))
    return True


def most_pieces(width, height, turning, board):
    """Return the greatest number of pieces of one size that a plan has."""
    return number_for(value_table(((width, height, 1),), turning, board), board)


def counts_up_to(numbers):
    """Return the ascending list of the tuples of counts that are nowhere greater than some numbers."""
    found = [()]
    for number in numbers:
        found = [counts + (count,) for counts in found for count in range(number + 1)]
    return found


def counts_less(counts, some):
    """Return counts less some others."""
    return tuple(count - less for count, less in zip(counts, some))


def least_sizes(sizes, board):
    """Return the list of those of some sizes that fit on a board and in which none of the others fits."""
    found = []
    lowest = board[1] + 1
    for width, height in sorted(sizes):
        if width <= board[0] and height < lowest:
            found.append((width, height))
            lowest = height
    return found


def sizes_together(first, second):
    """Return the list of the sizes of parts that a cut parts into one of some sizes and one of others."""
    found = []
    for width, height in first:
        for other_width, other_height in second:
            found.append((width + other_width, max(height, other_height)))
            found.append((max(width, other_width), height + other_height))
    return found


def sizes_for_counts(kinds, turning, board, numbers):
    """Return the dict from counts of kinds to the least sizes of parts from which they can be cut."""
    sizes = {}
    for counts in counts_up_to(numbers):
        found = []
        if sum(counts) == 1:
            found = shapes_of(kinds[counts.index(1)], turning)
        # Each split of the counts is met from both sides: half of them are enough.
        for some in counts_up_to(counts):
            rest = counts_less(counts, some)
            if sum(some) > 0 and some <= rest:
                found.extend(sizes_together(sizes[some], sizes[rest]))
        sizes[counts] = least_sizes(found, board)
    return sizes


def sheets_for(kinds, turning, board, numbers):
    """Return the fewest boards from which wanted numbers of kinds can be cut, or None."""
    sizes = sizes_for_counts(kinds, turning, board, numbers)
    fewest = {}
    for counts in counts_up_to(numbers):
        if sum(counts) == 0:
            fewest[counts] = 0
            continue
        if sum(counts) == 1 and not sizes[counts]:
            return None
        rests = [counts_less(counts, some) for some in counts_up_to(counts) if sizes[some]]
        fewest[counts] = 1 + min([fewest[rest] for rest in rests])
    return fewest[tuple(numbers)]
