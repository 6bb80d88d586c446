"""The texts of job books, plates, layouts and flows (part 21).

The functions `.._in` return what has a text, or something that has not the form of it: None, or
a tuple with None in it, which the tests of the forms refuse.
"""

from foldandbound.errors import BadLine, BadText
from foldandbound.flows import MOST_NODES, flows_below, is_flow
from foldandbound.forms import LETTERS
from foldandbound.jobs import MOST_STEPS, is_step
from foldandbound.layouts import is_layout
from foldandbound.sheets import is_any_plate

DIGITS = "0123456789"
MOST_DIGITS = 10


def number_in(text):
    """Return the number that has a text, or None."""
    if not 1 <= len(text) <= MOST_DIGITS or not all(digit in DIGITS for digit in text):
        return None
    if len(text) > 1 and text[0] == "0":
        return None
    return int(text)


def write_pair(pair):
    """Return the text of a pair of numbers, as a size or a board is."""
    return f"{pair[0]}x{pair[1]}"


def pair_in(text):
    """Return the tuple of the numbers with `x` between them that a text has."""
    return tuple(number_in(part) for part in text.split("x"))


def fold_of(items):
    """Return the fold that has a text of some items, or something that is none."""
    if len(items) != 4:
        return None
    axis, line, part, place = items
    return (axis, number_in(line), part, place)


def write_step(step):
    """Return the text of a step of a job book."""
    items = list(step)
    if step[0] == "sheet":
        items = [step[0], step[1], write_pair(step[2])]
    elif step[0] == "fold":
        items = list(step[:2] + step[2])
    return " ".join([str(item) for item in items])


def step_in(text):
    """Return the step that has a text, or None."""
    items = text.split(" ")
    step = tuple(items)
    if items[0] == "sheet" and len(items) == 3:
        step = (items[0], items[1], pair_in(items[2]))
    elif items[0] == "fold" and len(items) == 6:
        step = (items[0], items[1], fold_of(items[2:]))
    elif items[0] == "cut" and len(items) == 5:
        step = (items[0], items[1], items[2], number_in(items[3]), items[4])
    return step if is_step(step) else None


def write_job(job):
    """Return the text of a job book."""
    return "\n".join([write_step(step) for step in job])


def read_job(text):
    """Return the job book that has a text."""
    if text == "":
        return ()
    steps = [step_in(line) for line in text.split("\n")]
    if None in steps:
        raise BadLine(steps.index(None))
    if len(steps) > MOST_STEPS:
        raise BadLine(MOST_STEPS)
    return tuple(steps)


def write_face(face):
    """Return the text of a face."""
    page, flip = face
    return f"{page}*" if flip == 1 else str(page)


def face_in(text):
    """Return the face that has a text, or something that is none."""
    if text.endswith("*"):
        return (number_in(text[:-1]), 1)
    return (number_in(text), 0)


def write_faces(faces):
    """Return the text of some faces, one behind the other."""
    return " ".join([write_face(face) for face in faces])


def write_plate(plate):
    """Return the text of a plate."""
    return " / ".join([write_faces(row) for row in plate])


def read_plate(text):
    """Return the plate that has a text."""
    rows = [row.split(" ") for row in text.split(" / ")]
    plate = tuple(tuple(face_in(item) for item in row) for row in rows)
    if not is_any_plate(plate):
        raise BadText("the text is not that of a plate")
    return plate


def write_layout(layout):
    """Return the text of a layout."""
    board, pieces = layout
    lines = [f"piece {left} {top} {width} {height}" for left, top, width, height in pieces]
    return "\n".join([f"board {write_pair(board)}"] + lines)


def board_in(text):
    """Return the board that has the text of a line, or something that is none."""
    items = text.split(" ")
    return pair_in(items[1]) if items[0] == "board" and len(items) == 2 else None


def piece_in(text):
    """Return the piece that has the text of a line, or something that is none."""
    items = text.split(" ")
    return tuple(number_in(item) for item in items[1:]) if items[0] == "piece" else None


def read_layout(text):
    """Return the layout that has a text."""
    lines = text.split("\n")
    layout = (board_in(lines[0]), ())
    if not is_layout(layout):
        raise BadLine(0)
    for at, line in enumerate(lines[1:]):
        layout = (layout[0], layout[1] + (piece_in(line),))
        if not is_layout(layout):
            raise BadLine(at + 1)
    return layout


def write_flow(flow):
    """Return the text of a flow."""
    if flow[0] == "paper":
        return flow[1]
    inside = ",".join([str(flow[1])] + [write_flow(below) for below in flows_below(flow)])
    return f"{flow[0]}({inside})"


def word_end(text, at):
    """Return the place in a text at which the letters from another place on end."""
    while at < len(text) and text[at] in LETTERS:
        at += 1
    return at


def node_of(word, number, flows):
    """Return the node of a flow with a word, its number and the list of the flows below it."""
    if word == "gather":
        return (word, number, tuple(flows))
    return (word, number) + tuple(flows)


def flow_at(text, at, depth):
    """Return what is told from a place in a text on, as a flow, and the place where it ends.

    It raises BadText if brackets or commas are not where they must be, or if it is nested too deep.
    """
    end = word_end(text, at)
    word = text[at:end]
    if text[end:end + 1] != "(":
        return (("paper", word), end)
    comma = text.find(",", end)
    if comma < 0 or depth == MOST_NODES:
        raise BadText("the text is not that of a flow")
    number = number_in(text[end + 1:comma])
    flows = []
    end = comma
    while text[end:end + 1] == ",":
        flow, end = flow_at(text, end + 1, depth + 1)
        flows.append(flow)
    if text[end:end + 1] != ")":
        raise BadText("the text is not that of a flow")
    return (node_of(word, number, flows), end + 1)


def read_flow(text):
    """Return the flow that has a text."""
    flow, end = flow_at(text, 0, 1)
    if end < len(text) or not is_flow(flow):
        raise BadText("the text is not that of a flow")
    return flow
