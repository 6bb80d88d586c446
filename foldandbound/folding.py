"""Stacks of layers, and how they are turned and folded (part 2)."""

from foldandbound.errors import BadFold
from foldandbound.forms import is_between, is_natural, is_one_of, is_tuple_of
from foldandbound.sheets import LONGEST_EDGE, after_turn, side_up

AXES = ("column", "row")
PARTS = ("high", "low")
PLACES = ("over", "under")
MOST_PLACES = 64
MOST_LAYERS = 64
LAST_LINE = 63


def is_layer(value):
    """Tell whether any value is a layer with a panel that some sheet may have."""
    if not is_tuple_of(value, 5):
        return False
    sheet, row, column, across, down = value
    if not is_natural(sheet):
        return False
    if not is_between(row, 0, LONGEST_EDGE - 1) or not is_between(column, 0, LONGEST_EDGE - 1):
        return False
    return is_between(across, 0, 1) and is_between(down, 0, 1)


def is_pile(value):
    """Tell whether any value is a pile of at most 64 such layers."""
    if type(value) is not tuple or not 1 <= len(value) <= MOST_LAYERS:
        return False
    return all(is_layer(layer) for layer in value)


def is_stack(value):
    """Tell whether any value is a stack with at most 64 places."""
    if type(value) is not tuple or not 1 <= len(value) <= MOST_PLACES:
        return False
    if type(value[0]) is not tuple:
        return False
    columns = len(value[0])
    if not 1 <= len(value) * columns <= MOST_PLACES:
        return False
    return all(is_tuple_of(row, columns) and all(is_pile(pile) for pile in row) for row in value)


def flat(number, size):
    """Return the stack of a flat sheet with its front up."""
    rows, columns = size
    return tuple(tuple(((number, row, column, 0, 0),) for column in range(columns)) for row in range(rows))


def turned_layer(layer, motion):
    """Return a layer after a motion."""
    sheet, row, column, across, down = layer
    across, down = after_turn((across, down), motion)
    return (sheet, row, column, across, down)


def turned_pile(pile, motion):
    """Return a pile after a motion."""
    layers = pile if motion in ("stay", "spin") else pile[::-1]
    return tuple(turned_layer(layer, motion) for layer in layers)


def turned(stack, motion):
    """Return a stack after the whole of it was turned by a motion."""
    rows = stack[::-1] if motion in ("tumble", "spin") else stack
    step = -1 if motion in ("turn", "spin") else 1
    return tuple(tuple(turned_pile(pile, motion) for pile in row[::step]) for row in rows)


def is_fold(value):
    """Tell whether any value is a fold with a line from 1 to 63."""
    if not is_tuple_of(value, 4):
        return False
    axis, line, part, place = value
    if not is_one_of(axis, AXES) or not is_between(line, 1, LAST_LINE):
        return False
    return is_one_of(part, PARTS) and is_one_of(place, PLACES)


def lanes_of(stack, axis):
    """Return the columns of a stack from the left, or its rows from the top."""
    return stack if axis == "row" else tuple(zip(*stack))


def stack_of(lanes, axis):
    """Return the stack that has some columns or rows."""
    return lanes if axis == "row" else tuple(zip(*lanes))


def has_line(stack, axis, line):
    """Tell whether a stack has a line between two of its columns or rows."""
    many = len(stack) if axis == "row" else len(stack[0])
    return 1 <= line < many


def turned_lane(lane, axis):
    """Return a column or row after it was turned over the line of a fold."""
    motion = "turn" if axis == "column" else "tumble"
    return tuple(turned_pile(pile, motion) for pile in lane)


def laid(resting, moved, place):
    """Return the lane where a moved lane comes to lie on or under a resting one."""
    if place == "under":
        resting, moved = moved, resting
    return tuple(lower + upper for lower, upper in zip(resting, moved))


def folded(stack, fold):
    """Return the stack after a fold of all its layers together."""
    axis, line, part, place = fold
    if not has_line(stack, axis, line):
        raise BadFold("the stack has no such line")
    lanes = lanes_of(stack, axis)
    # Both parts are listed from the line outwards: lanes of one number meet.
    low, high = lanes[:line][::-1], lanes[line:]
    resting, moved = (high, low) if part == "low" else (low, high)
    moved = tuple(turned_lane(lane, axis) for lane in moved)
    together = tuple(laid(lane, other, place) for lane, other in zip(resting, moved))
    outwards = together + resting[len(together):] + moved[len(together):]
    return stack_of(outwards if part == "low" else outwards[::-1], axis)


def all_folded(size, folds):
    """Return the stack after a row of folds of the flat sheet 0."""
    stack = flat(0, size)
    for fold in folds:
        stack = folded(stack, fold)
    return stack


def is_one_place(stack):
    """Tell whether a stack lies at one place only."""
    return len(stack) == 1 and len(stack[0]) == 1


def is_full(size, folds):
    """Tell whether a row of folds can be done and ends with one place."""
    try:
        stack = all_folded(size, folds)
    except BadFold:
        return False
    return is_one_place(stack)


def full_pile(size, folds):
    """Return the pile after a full row of folds."""
    stack = all_folded(size, folds)
    if not is_one_place(stack):
        raise BadFold("more than one place is left")
    return stack[0][0]


def panel_beyond(layer, axis):
    """Return the panel of the sheet beyond the right (lower) edge of a place where a layer lies."""
    _, row, column, across, down = layer
    if axis == "column":
        return (row, column + 1 - 2 * across)
    return (row + 1 - 2 * down, column)


def crease_kind(layer, place):
    """Return the kind of the crease that a fold makes at an edge of a layer."""
    front_up = side_up(layer[3:]) == "front"
    return "valley" if front_up == (place == "over") else "mountain"


def new_creases(stack, fold):
    """Return the list of the creases that a fold makes, in any order."""
    axis, line, _, place = fold
    lanes = lanes_of(stack, axis)
    found = []
    for pile, other in zip(lanes[line - 1], lanes[line]):
        beyond = [layer[1:3] for layer in other]
        for layer in pile:
            # An edge on the line may have been creased before: then both panels lie in one pile.
            neighbour = panel_beyond(layer, axis)
            if neighbour in beyond:
                row, column = min(layer[1:3], neighbour)
                found.append((axis, row, column, crease_kind(layer, place)))
    return found


def creases(size, folds):
    """Return the ascending list of the creases that a row of folds makes."""
    stack = flat(0, size)
    found = []
    for fold in folds:
        after = folded(stack, fold)
        found.extend(new_creases(stack, fold))
        stack = after
    return sorted(found)
