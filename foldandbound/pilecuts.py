"""Strips and sheets that are parted by cutting piles together (part 12)."""

from foldandbound.forms import is_between


def fewest_steps(n):
    """Return the fewest steps after which all n parts of a strip are apart."""
    return (n - 1).bit_length()


def fewest_sheet_steps(rows, columns):
    """Return the fewest steps after which all parts of a sheet are apart."""
    return fewest_steps(rows) + fewest_steps(columns)


def steps_for(n):
    """Return the places of the line at as few steps as possible."""
    steps = []
    longest = n
    while longest > 1:
        longest = (longest + 1) // 2
        steps.append(longest)
    return tuple(steps)


def piles_after(n, steps):
    """Return the dict from the lengths of the piles after some steps to how many there are."""
    piles = {n: 1}
    for line in steps:
        found = {}
        for length, many in piles.items():
            parts = [line, length - line] if 0 < line < length else [length]
            for part in parts:
                found[part] = found.get(part, 0) + many
        piles = found
    return piles


def parted(n, steps):
    """Return the descending list of the lengths of the piles after some steps."""
    piles = piles_after(n, steps)
    return [length for length in sorted(piles, reverse=True) for _ in range(piles[length])]


def check_steps(n, value):
    """Tell whether any value is a tuple of steps after which all n parts of a strip are apart."""
    if type(value) is not tuple or not all(is_between(line, 1, n) for line in value):
        return False
    return list(piles_after(n, value)) == [1]
