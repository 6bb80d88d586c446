"""Job books: what their steps do, and what comes out (part 8)."""

from foldandbound.errors import BadStep, NoBook
from foldandbound.folding import AXES, LAST_LINE, flat, folded, has_line, is_fold, is_one_place, laid, lanes_of
from foldandbound.folding import stack_of, turned
from foldandbound.forms import is_between, is_one_of, is_word
from foldandbound.reading import faces_of, wanted_face
from foldandbound.sheets import is_motion, is_size, seen_face, side_up

MOST_STEPS = 60


def is_sheet_step(step):
    """Tell whether a tuple that begins with `sheet` is a step."""
    return len(step) == 3 and is_word(step[1]) and is_size(step[2])


def is_step_of_words(step):
    """Tell whether a tuple that begins with `print` or `lay` is a step."""
    return len(step) == 3 and is_word(step[1]) and is_word(step[2])


def is_turn_step(step):
    """Tell whether a tuple that begins with `turn` is a step."""
    return len(step) == 3 and is_word(step[1]) and is_motion(step[2])


def is_fold_step(step):
    """Tell whether a tuple that begins with `fold` is a step."""
    return len(step) == 3 and is_word(step[1]) and is_fold(step[2])


def is_cut_step(step):
    """Tell whether a tuple that begins with `cut` is a step."""
    if len(step) != 5 or not is_word(step[1]) or not is_word(step[4]):
        return False
    return is_one_of(step[2], AXES) and is_between(step[3], 1, LAST_LINE)


STEP_FORMS = {
    "sheet": is_sheet_step,
    "print": is_step_of_words,
    "turn": is_turn_step,
    "fold": is_fold_step,
    "cut": is_cut_step,
    "lay": is_step_of_words,
}


def is_step(value):
    """Tell whether any value is a step of a job book."""
    if type(value) is not tuple or len(value) == 0:
        return False
    if type(value[0]) is not str or value[0] not in STEP_FORMS:
        return False
    form = STEP_FORMS[value[0]]
    return form(value)


def is_job(value):
    """Tell whether any value is a job book."""
    if type(value) is not tuple or len(value) > MOST_STEPS:
        return False
    return all(is_step(step) for step in value)


# The state of a shop that does a job book is a tuple of the dict of its stacks, the dict of
# what was printed on, and the number of its sheets. The functions `after_..` return the state
# after a step, or None if the step cannot be done.


def with_stack(stacks, name, stack):
    """Return a dict of stacks with a stack under a name."""
    return {**stacks, name: stack}


def after_sheet(state, step):
    """Return the state after a new flat sheet came, or None."""
    stacks, prints, sheets = state
    _, name, size = step
    if name in stacks:
        return None
    return (with_stack(stacks, name, flat(sheets, size)), prints, sheets + 1)


def is_single(stack):
    """Tell whether a stack has one layer at each place."""
    return all(len(pile) == 1 for row in stack for pile in row)


def prints_on(stack, plate):
    """Return the dict of what a plate prints on a stack of one layer."""
    found = {}
    for row, piles in enumerate(stack):
        for column, pile in enumerate(piles):
            layer = pile[0]
            way = layer[3:]
            # A plate prints upright as it is seen from above: upside down for a panel that lies so.
            found[layer[:3] + (side_up(way),)] = (plate, (row, column), way[1])
    return found


def after_print(state, step):
    """Return the state after a plate was printed on a stack, or None."""
    stacks, prints, sheets = state
    _, name, plate = step
    if name not in stacks or not is_single(stacks[name]):
        return None
    more = prints_on(stacks[name], plate)
    if any(side in prints for side in more):
        return None
    together = {side: prints[side] for side in prints}
    for side in more:
        together[side] = more[side]
    return (stacks, together, sheets)


def after_turning(state, step):
    """Return the state after a stack was turned, or None."""
    stacks, prints, sheets = state
    _, name, motion = step
    if name not in stacks:
        return None
    return (with_stack(stacks, name, turned(stacks[name], motion)), prints, sheets)


def after_fold(state, step):
    """Return the state after a stack was folded, or None."""
    stacks, prints, sheets = state
    _, name, fold = step
    if name not in stacks or not has_line(stacks[name], fold[0], fold[1]):
        return None
    return (with_stack(stacks, name, folded(stacks[name], fold)), prints, sheets)


def after_cut(state, step):
    """Return the state after a stack was cut through, or None."""
    stacks, prints, sheets = state
    _, name, axis, line, other = step
    if name not in stacks or other in stacks or not has_line(stacks[name], axis, line):
        return None
    lanes = lanes_of(stacks[name], axis)
    kept = with_stack(stacks, name, stack_of(lanes[:line], axis))
    return (with_stack(kept, other, stack_of(lanes[line:], axis)), prints, sheets)


def after_lay(state, step):
    """Return the state after a stack was laid on another one, or None."""
    stacks, prints, sheets = state
    _, name, other = step
    if name == other or name not in stacks or other not in stacks:
        return None
    lower, upper = stacks[name], stacks[other]
    if len(lower) != len(upper) or len(lower[0]) != len(upper[0]):
        return None
    stack = tuple(laid(row, above, "over") for row, above in zip(lower, upper))
    together = with_stack(stacks, name, stack)
    del together[other]
    return (together, prints, sheets)


STEP_DEEDS = {
    "sheet": after_sheet,
    "print": after_print,
    "turn": after_turning,
    "fold": after_fold,
    "cut": after_cut,
    "lay": after_lay,
}


def states_of(job):
    """Return the list of the states before the first step of a job book and after each step."""
    state = ({}, {}, 0)
    states = [state]
    for at, step in enumerate(job):
        deed = STEP_DEEDS[step[0]]
        state = deed(state, step)
        if state is None:
            raise BadStep(at)
        states.append(state)
    return states


def run_job(job):
    """Return the dict of the stacks and that of what was printed on, after all steps."""
    stacks, prints, _ = states_of(job)[-1]
    return (stacks, prints)


def book_pile(stacks):
    """Return the pile of the stack `book`, which must have one place."""
    if "book" not in stacks or not is_one_place(stacks["book"]):
        raise NoBook("there is no stack `book` of one place")
    return stacks["book"][0][0]


def makes(job):
    """Return the list of what is read in the book: what was printed where, or None."""
    stacks, prints = run_job(job)
    found = []
    for sheet, row, column, side, flip in faces_of(book_pile(stacks)):
        got = prints.get((sheet, row, column, side))
        if got is None:
            found.append(None)
        else:
            plate, panel, spin = got
            found.append((plate, panel[0], panel[1], flip ^ spin))
    return found


def printed_face(plates, made):
    """Return the face that is read where something was made by one of some plates."""
    if made is None or made[0] not in plates:
        return (0, 0)
    word, row, column, flip = made
    plate = plates[word]
    if row >= len(plate) or column >= len(plate[0]):
        return (0, 0)
    return seen_face(plate[row][column], flip)


def printed(job, plates):
    """Return the list of the faces that are read in the book with some plates."""
    return [printed_face(plates, made) for made in makes(job)]


def smallest_plate(faces):
    """Return the smallest plate that has some faces, in a dict from their panels, and else blanks."""
    rows = max([panel[0] for panel in faces]) + 1
    columns = max([panel[1] for panel in faces]) + 1
    return tuple(tuple(faces.get((r, c), (0, 0)) for c in range(columns)) for r in range(rows))


def plates_of(job, n):
    """Return the one dict of plates for which the book reads right for n pages, or None."""
    made = makes(job)
    if len(made) < n:
        return None
    wanted = {}
    for at, side in enumerate(made):
        if side is None:
            if at < n:
                return None
            continue
        word, row, column, flip = side
        face = seen_face(wanted_face(at, n), flip)
        faces = wanted.setdefault(word, {})
        if faces.setdefault((row, column), face) != face:
            return None
    return {word: smallest_plate(wanted[word]) for word in wanted}
