"""Sheets, their panels and the ways in which these lie (part 1)."""

from foldandbound.forms import is_between, is_tuple_of

LONGEST_EDGE = 16
MOST_PANELS = 64
LAST_PAGE = 9999

# How often each motion turns a panel over: from left to right, and from top to bottom.
MOTIONS = {"stay": (0, 0), "turn": (1, 0), "tumble": (0, 1), "spin": (1, 1)}


def is_size(value):
    """Tell whether any value is a size."""
    if not is_tuple_of(value, 2):
        return False
    rows, columns = value
    if not is_between(rows, 1, LONGEST_EDGE) or not is_between(columns, 1, LONGEST_EDGE):
        return False
    return rows * columns <= MOST_PANELS


def panels(size):
    """Return the ascending list of the panels of a size."""
    rows, columns = size
    return [(row, column) for row in range(rows) for column in range(columns)]


def side_up(way):
    """Return the side that is seen from above of a panel that lies in a way."""
    across, down = way
    return "front" if across == down else "back"


def is_motion(value):
    """Tell whether any value is one of the four motions."""
    return type(value) is str and value in MOTIONS


def after_turn(way, motion):
    """Return the way of a panel after a motion."""
    across, down = way
    over, under = MOTIONS[motion]
    return (across ^ over, down ^ under)


def is_face(value):
    """Tell whether any value is a face."""
    if not is_tuple_of(value, 2):
        return False
    page, flip = value
    if not is_between(page, 0, LAST_PAGE) or not is_between(flip, 0, 1):
        return False
    return page > 0 or flip == 0


def is_plate(size, value):
    """Tell whether any value is a plate for a size."""
    rows, columns = size
    if not is_tuple_of(value, rows):
        return False
    return all(is_tuple_of(row, columns) and all(is_face(face) for face in row) for row in value)


def is_any_plate(value):
    """Tell whether any value is a plate for some size."""
    if type(value) is not tuple or not value or type(value[0]) is not tuple:
        return False
    size = (len(value), len(value[0]))
    return is_size(size) and is_plate(size, value)


def is_lay(size, value):
    """Tell whether any value is a lay for a size."""
    return is_tuple_of(value, 2) and is_plate(size, value[0]) and is_plate(size, value[1])


def face_of(lay, panel, side):
    """Return the face that a lay has on a side of a panel."""
    front, back = lay
    row, column = panel
    if side == "front":
        return front[row][column]
    return back[row][len(back[row]) - 1 - column]


def seen_face(face, flip):
    """Return a face as it is seen if its panel stands upside down (flip 1) or not (0)."""
    page, printed_flip = face
    if page == 0:
        return (0, 0)
    return (page, printed_flip ^ flip)


def spun(plate):
    """Return the plate as it is seen from the other end of the sheet."""
    return tuple(tuple(seen_face(face, 1) for face in row[::-1]) for row in plate[::-1])


def turned_lay(lay, motion):
    """Return the lay of a sheet after a motion, with the side that is up as its front."""
    front, back = lay
    across, down = MOTIONS[motion]
    # The back is told as it is seen after `turn`; `tumble` is this and half a turn.
    if down == 1:
        front, back = spun(front), spun(back)
    return (front, back) if across == down else (back, front)
