"""Lines that are broken with least badness (part 18)."""


def line_width(widths):
    """Return the width of a line of some words, with a blank between two of them."""
    return sum(widths) + len(widths) - 1


def badness(widths, width, lines):
    """Return the badness of lines with some numbers of words, or None if there are no such lines."""
    if sum(lines) != len(widths) or any(number < 1 for number in lines):
        return None
    total = 0
    start = 0
    for number in lines:
        left = width - line_width(widths[start:start + number])
        if left < 0:
            return None
        start += number
        if start < len(widths):
            total += left * left
    return total


def best_number(widths, width, rest, start):
    """Return the least badness of the lines from a word on, and the least number of words in the first one then.

    `rest` tells, for each word behind it, what this function returns.
    """
    best = None
    for end in range(start + 1, len(widths) + 1):
        left = width - line_width(widths[start:end])
        if left < 0:
            break
        total = 0 if end == len(widths) else left * left + rest[end][0]
        if best is None or total < best[0]:
            best = (total, end - start)
    return best


def best_lines(widths, width):
    """Return the first list of the numbers of words in lines with the least badness."""
    rest = {}
    for start in range(len(widths) - 1, -1, -1):
        rest[start] = best_number(widths, width, rest, start)
    lines = []
    while sum(lines) < len(widths):
        lines.append(rest[sum(lines)][1])
    return lines
