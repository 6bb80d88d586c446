"""Tints of four colours (part 20)."""

from foldandbound.costs import shares

MOST_OF_ONE = 100
MOST_LIGHT = 255


def less_colour(tint, part):
    """Return a tint with a part, in per cent, of what its three colours have in common as black."""
    less = min(tint[:3]) * part // 100
    cyan, magenta, yellow, black = tint
    return (cyan - less, magenta - less, yellow - less, min(black + less, MOST_OF_ONE))


def within_total(tint, most):
    """Return a tint whose four numbers add up to at most so much: black goes before the colours."""
    if sum(tint) <= most:
        return tint
    black = min(tint[3], most)
    cyan, magenta, yellow = shares(most - black, list(tint[:3]))
    return (cyan, magenta, yellow, black)


def ink_for(light):
    """Return how much of a colour takes away all but so much of the light that it takes."""
    return (MOST_LIGHT - light) * MOST_OF_ONE // MOST_LIGHT


def tint_of(red, green, blue):
    """Return the tint without black of a colour that is told by its lights."""
    return (ink_for(red), ink_for(green), ink_for(blue), 0)
