"""Job books that make the same, and the ways of faces through them (part 9)."""

from foldandbound.errors import BadStep, NoBook, NoFace, NoStep
from foldandbound.forms import is_same
from foldandbound.jobs import book_pile, makes, smallest_plate, states_of


def alike_jobs(first, second):
    """Tell whether two job books read the same for all contents of their plates."""
    one = makes(first)
    return one == makes(second)


def plate_with_page(made):
    """Return a dict of one plate that has page 1 where something was made, and else blanks."""
    word, row, column, _ = made
    return {word: smallest_plate({(row, column): (1, 0)})}


def parting(first, second):
    """Return a dict of plates for which two job books read differently, or None."""
    one = makes(first)
    other = makes(second)
    if len(one) != len(other):
        return {}
    for mine, theirs in zip(one, other):
        if mine != theirs:
            return plate_with_page(theirs if mine is None else mine)
    return None


def without_step(job, k):
    """Return a job book without a step."""
    if not 0 <= k < len(job):
        raise NoStep("the job book has no such step")
    return job[:k] + job[k + 1:]


def is_alike_made(job, made):
    """Tell whether a job book can be done and makes what is told."""
    try:
        return makes(job) == made
    except (BadStep, NoBook):
        return False


def needless_steps(job):
    """Return the ascending list of the steps without which a job book is alike."""
    made = makes(job)
    return [k for k in range(len(job)) if is_alike_made(without_step(job, k), made)]


def layer_in_pile(pile, panel):
    """Return the height at which a panel `(sheet, row, column)` lies in a pile, or None."""
    for height, layer in enumerate(pile):
        if layer[:3] == panel:
            return height
    return None


def where_it_lies(stacks, panel):
    """Return the pair of the layer of a panel and its place, or None if it did not come yet."""
    for name, stack in stacks.items():
        for row, piles in enumerate(stack):
            for column, pile in enumerate(piles):
                height = layer_in_pile(pile, panel)
                if height is not None:
                    return (pile[height], (name, row, column, height))
    return None


def way_of(job, face):
    """Return the way of the sheet side with a number in the list of what is read."""
    states = states_of(job)
    pile = book_pile(states[-1][0])
    if not 0 <= face < 2 * len(pile):
        raise NoFace("the book has no such face")
    # Each leaf is read on both sides, from the top of the pile.
    panel = pile[len(pile) - 1 - face // 2][:3]
    way = []
    before = None
    for step in range(len(job)):
        now = where_it_lies(states[step + 1][0], panel)
        if now != before:
            way.append((step, now[0], now[1]))
        before = now
    return tuple(way)


def check_way(job, face, value):
    """Tell whether any value is the way of a face."""
    return is_same(value, way_of(job, face))
