"""One plate that prints both sides of a sheet (part 7)."""

from foldandbound.errors import OddSheet
from foldandbound.sheets import spun


def both_sides(plate, motion):
    """Return the lay of a sheet after work and turn or work and tumble."""
    # A back is told as it is seen after `turn`: half a turn from how it lies after `tumble`.
    return (plate, plate) if motion == "turn" else (plate, spun(plate))


def columns_of(plate, start, end):
    """Return the part of a plate from a column up to another one."""
    return tuple(row[start:end] for row in plate)


def halves(plate, motion):
    """Return the lays of the left and right (upper and lower) half of the sheet."""
    many = len(plate[0]) if motion == "turn" else len(plate)
    if many % 2 == 1:
        raise OddSheet("the sheet has no line in its middle")
    half = many // 2
    front, back = both_sides(plate, motion)
    if motion == "turn":
        left = (columns_of(front, 0, half), columns_of(back, half, many))
        right = (columns_of(front, half, many), columns_of(back, 0, half))
        return (left, right)
    return ((front[:half], back[:half]), (front[half:], back[half:]))


def plate_for(lay, motion):
    """Return the plate of a whole sheet that gives a lay to its left (upper) half."""
    front, back = lay
    if motion == "turn":
        return tuple(left + right for left, right in zip(front, back))
    return front + spun(back)


def one_plate(lay, motion):
    """Tell whether a lay can be printed with one plate on both sides."""
    return both_sides(lay[0], motion) == lay
