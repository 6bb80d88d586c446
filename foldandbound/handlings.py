"""Handlings of a stack that lead to a pile (part 24)."""

from foldandbound.errors import BadFold, BadHandling
from foldandbound.folding import AXES, flat, folded, is_fold, is_one_place, laid, lanes_of, stack_of, turned
from foldandbound.forms import is_one_of, is_tagged
from foldandbound.jobs import MOST_STEPS
from foldandbound.orders import folds_of

TURNS = ("spin", "tumble", "turn")


def is_handling(value):
    """Tell whether any value is a handling."""
    if is_tagged(value, "fold", 2):
        return is_fold(value[1])
    if is_tagged(value, "halve", 2):
        return is_one_of(value[1], AXES)
    return is_tagged(value, "turn", 2) and is_one_of(value[1], TURNS)


def middle_line(stack, axis):
    """Return the number of the line in the middle of the columns or rows of a stack, or None."""
    many = len(stack) if axis == "row" else len(stack[0])
    return many // 2 if many % 2 == 0 else None


def halved(stack, axis):
    """Return a stack that was cut in its middle, with the part of the greater numbers on the other one."""
    line = middle_line(stack, axis)
    if line is None:
        raise BadHandling("the stack has no line in its middle")
    lanes = lanes_of(stack, axis)
    return stack_of(tuple(laid(low, high, "over") for low, high in zip(lanes[:line], lanes[line:])), axis)


def handled(stack, handling):
    """Return the stack after a handling."""
    kind, how = handling
    if kind == "turn":
        return turned(stack, how)
    if kind == "halve":
        return halved(stack, how)
    try:
        return folded(stack, how)
    except BadFold:
        raise BadHandling("the stack has no such line") from None


def handlings_of(stack):
    """Return the ascending list of the handlings that can be done with a stack."""
    found = [("fold", fold) for fold in folds_of(stack)]
    found.extend([("halve", axis) for axis in AXES if middle_line(stack, axis) is not None])
    return found + [("turn", motion) for motion in TURNS]


def rows_to_stacks(size, wanted):
    """Return a dict from stacks to the first one of the shortest rows of handlings to each.

    It has a wanted stack if there is a row to it; otherwise, and if None is wanted, it has all.
    """
    rows = {flat(0, size): ()}
    latest = list(rows)
    # The rows to the latest stacks ascend, and so do those to the newest ones: each is found by its first one.
    while latest and wanted not in rows:
        newest = []
        for stack in latest:
            for handling in handlings_of(stack):
                after = handled(stack, handling)
                if after not in rows:
                    rows[after] = rows[stack] + (handling,)
                    newest.append(after)
        latest = newest
    return rows


def handlings_to(size, pile):
    """Return the first one of the shortest rows of handlings that lead to a pile, or None."""
    stack = ((pile,),)
    return rows_to_stacks(size, stack).get(stack)


def rows_to_piles(size):
    """Return the dict from all piles to which handlings lead to the first one of the shortest rows to each."""
    rows = rows_to_stacks(size, None)
    return {stack[0][0]: rows[stack] for stack in rows if is_one_place(stack)}


def piles_of(size):
    """Return the ascending list of the piles to which handlings lead."""
    return sorted(rows_to_piles(size))


def most_handlings(size):
    """Return the greatest length of the shortest rows of handlings to all piles."""
    return max([len(row) for row in rows_to_piles(size).values()])


def steps_for(stack, handling):
    """Return the list of the steps of a job book that do a handling with the stack `book`."""
    kind, how = handling
    if kind == "halve":
        return [("cut", "book", how, middle_line(stack, how), "half"), ("lay", "book", "half")]
    return [(kind, "book", how)]


def job_of(size, prints, handlings):
    """Return the job book that prints a sheet on both sides and does a row of handlings."""
    front, back = prints
    turn = ("turn", "book", "turn")
    steps = [("sheet", "book", size), ("print", "book", front), turn, ("print", "book", back), turn]
    stack = flat(0, size)
    for handling in handlings:
        after = handled(stack, handling)
        steps.extend(steps_for(stack, handling))
        stack = after
    if not is_one_place(stack) or len(steps) > MOST_STEPS:
        raise BadHandling("the handlings do not end with one place, or they are too many")
    return tuple(steps)
