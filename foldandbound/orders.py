"""Orders of layers that folds give (part 4)."""

from foldandbound.folding import AXES, PARTS, PLACES, flat, folded, full_pile, is_one_place
from foldandbound.forms import is_natural, is_tuple_of
from foldandbound.reading import check_pages, lay_of_pile
from foldandbound.sheets import panels


def order_of_pile(pile):
    """Return the panels of a pile from the top to the bottom."""
    return tuple(layer[1:3] for layer in pile[::-1])


def order_of(size, folds):
    """Return the order after a full row of folds."""
    return order_of_pile(full_pile(size, folds))


def is_order(size, value):
    """Tell whether any value is an order for a size."""
    rows, columns = size
    if not is_tuple_of(value, rows * columns):
        return False
    for panel in value:
        if not is_tuple_of(panel, 2) or not is_natural(panel[0]) or not is_natural(panel[1]):
            return False
    return sorted(value) == panels(size)


def folds_of(stack):
    """Return the ascending list of the folds that can be done with a stack."""
    many = {"column": len(stack[0]), "row": len(stack)}
    lines = [(axis, line) for axis in AXES for line in range(1, many[axis])]
    return [(axis, line, part, place) for axis, line in lines for part in PARTS for place in PLACES]


def is_run(pile, places):
    """Tell whether the panels of a pile stand side by side in an order, in one of both directions."""
    first = places[pile[0][1:3]]
    steps = [places[layer[1:3]] - first for layer in pile]
    return steps == list(range(len(pile))) or steps == [-at for at in range(len(pile))]


def can_become(stack, places):
    """Tell whether the piles of a stack may end up in an order.

    A fold lays whole piles on each other, so each pile stays together until the end.
    """
    return all(is_run(pile, places) for row in stack for pile in row)


def after_one_more(folds_for, places):
    """Return a dict from the stacks after one fold more to the first row of folds to each.

    It takes such a dict, in which the rows of folds ascend; then they ascend in the new one, too.
    """
    found = {}
    for stack, folds in folds_for.items():
        for fold in folds_of(stack):
            after = folded(stack, fold)
            if after not in found and can_become(after, places):
                found[after] = folds + (fold,)
    return found


def folds_to(size, order):
    """Return the first one of the shortest full rows of folds to an order, or None."""
    places = {panel: at for at, panel in enumerate(order)}
    folds_for = {flat(0, size): ()}
    while folds_for:
        for stack, folds in folds_for.items():
            if is_one_place(stack) and order_of_pile(stack[0][0]) == order:
                return folds
        folds_for = after_one_more(folds_for, places)
    return None


def full_piles(size):
    """Return the list of all piles that full rows of folds leave, each once."""
    waiting = [flat(0, size)]
    known = {waiting[0]: True}
    piles = []
    while waiting:
        stack = waiting.pop()
        if is_one_place(stack):
            piles.append(stack[0][0])
        for fold in folds_of(stack):
            after = folded(stack, fold)
            if after not in known:
                known[after] = True
                waiting.append(after)
    return piles


def orders(size):
    """Return the ascending list of the orders that full rows of folds give."""
    return sorted({order_of_pile(pile) for pile in full_piles(size)})


def fewest_folds(size):
    """Return the fewest folds of a full row."""
    rows, columns = size
    # A fold leaves at least half of the rows or columns, and can leave just half, rounded up.
    return (rows - 1).bit_length() + (columns - 1).bit_length()


def lays_for(size, n):
    """Return the ascending list of the lays of all full rows of folds for n pages."""
    check_pages(size, n)
    return sorted({lay_of_pile(size, pile, n) for pile in full_piles(size)})
