"""Tests of plain values, for the functions that take any value.

They ask for the exact kind of a value, so that True and False are no integers
and nothing that a value of a foreign class does can get in the way.
"""

LETTERS = "abcdefghijklmnopqrstuvwxyz"
LONGEST_WORD = 12


def is_integer(value):
    """Tell whether any value is an integer."""
    return type(value) is int


def is_between(value, low, high):
    """Tell whether any value is an integer from low to high."""
    return type(value) is int and low <= value <= high


def is_natural(value):
    """Tell whether any value is an integer that is at least 0."""
    return type(value) is int and value >= 0


def is_tuple_of(value, many):
    """Tell whether any value is a tuple of so many items."""
    return type(value) is tuple and len(value) == many


def is_tagged(value, word, many):
    """Tell whether any value is a tuple of so many items that begins with a word."""
    return is_tuple_of(value, many) and type(value[0]) is str and value[0] == word


def is_one_of(value, words):
    """Tell whether any value is one of some strings."""
    return type(value) is str and value in words


def is_word(value):
    """Tell whether any value is a word: 1 to 12 letters from a to z."""
    if type(value) is not str or not 1 <= len(value) <= LONGEST_WORD:
        return False
    return all(letter in LETTERS for letter in value)


def is_ascending(values):
    """Tell whether values that can be compared ascend strictly."""
    return all(low < high for low, high in zip(values, values[1:]))


def is_same(value, wanted):
    """Tell whether any value is the wanted one, of the same kinds throughout.

    Plain equality would take True for 1; and it would go as deep as the value.
    """
    if type(wanted) is not tuple:
        return type(value) is type(wanted) and value == wanted
    if not is_tuple_of(value, len(wanted)):
        return False
    return all(is_same(mine, other) for mine, other in zip(value, wanted))
