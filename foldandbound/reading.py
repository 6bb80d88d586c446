"""Piles that are read as pages (part 3)."""

from foldandbound.errors import TooMany
from foldandbound.folding import full_pile, turned_pile
from foldandbound.sheets import face_of, seen_face, side_up

OTHER_SIDE = {"front": "back", "back": "front"}
MOTIONS_IN_ORDER = ("stay", "turn", "tumble", "spin")


def faces_of(pile):
    """Return the list of the faces of a pile, leaf by leaf from the top."""
    faces = []
    for sheet, row, column, across, down in pile[::-1]:
        side = side_up((across, down))
        # A leaf that is turned over from left to right keeps its `down`: one flip for both sides.
        faces.append((sheet, row, column, side, down))
        faces.append((sheet, row, column, OTHER_SIDE[side], down))
    return faces


def reading(lays, pile):
    """Return the list of the faces that are read in a pile of sheets with some lays."""
    faces = faces_of(pile)
    return [seen_face(face_of(lays[sheet], (row, column), side), flip) for sheet, row, column, side, flip in faces]


def wanted_face(at, n):
    """Return the face that must be read at a place of a right reading for n pages."""
    return (at + 1, 0) if at < n else (0, 0)


def first_wrong(faces, n):
    """Return the number of the first face that is not as it must be, or None."""
    for at, face in enumerate(faces):
        if face != wanted_face(at, n):
            return at
    return len(faces) if len(faces) < n else None


def is_right(faces, n):
    """Tell whether a list of faces is the right reading for n pages."""
    return first_wrong(faces, n) is None


def check_pages(size, n):
    """Raise TooMany if n pages are more than a sheet has sides of panels."""
    rows, columns = size
    if n > 2 * rows * columns:
        raise TooMany("the sheet has not so many sides of panels")


def lay_of_pile(size, pile, n):
    """Return the one lay for which the pile of a sheet has the right reading for n pages."""
    rows, columns = size
    printed = {}
    for at, (_, row, column, side, flip) in enumerate(faces_of(pile)):
        printed[(row, column, side)] = seen_face(wanted_face(at, n), flip)
    front = tuple(tuple(printed[(r, c, "front")] for c in range(columns)) for r in range(rows))
    back = tuple(tuple(printed[(r, columns - 1 - c, "back")] for c in range(columns)) for r in range(rows))
    return (front, back)


def laying(size, folds, n):
    """Return the one lay that a full row of folds makes read right for n pages."""
    pile = full_pile(size, folds)
    check_pages(size, n)
    return lay_of_pile(size, pile, n)


def motion_between(size, first, second):
    """Return the first motion of the second pile that makes it like the first one, or None."""
    pile = full_pile(size, first)
    other = full_pile(size, second)
    for motion in MOTIONS_IN_ORDER:
        if turned_pile(other, motion) == pile:
            return motion
    return None


def alike_folds(size, first, second):
    """Tell whether each lay has the same reading for two full rows of folds."""
    # Piles that differ in a layer differ in a face, and so in the reading of some lay.
    return full_pile(size, first) == full_pile(size, second)
