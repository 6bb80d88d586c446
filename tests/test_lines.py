"""Part 18: lines."""

import itertools
import random
import unittest

from foldandbound.lines import badness, best_lines
from tests.support import ShopCase


def text_of(widths, lines):
    """The lines as texts of letters and blanks."""
    words = ["x" * width for width in widths]
    found = []
    for number in lines:
        found.append(" ".join(words[:number]))
        words = words[number:]
    return found


def told_badness(widths, width, lines):
    if any(number < 1 for number in lines) or sum(lines) != len(widths):
        return None
    texts = text_of(widths, lines)
    if any(len(text) > width for text in texts):
        return None
    return sum((width - len(text)) ** 2 for text in texts[:-1])


def all_lines(many):
    """All lists of numbers that are at least 1 with a sum."""
    if many == 0:
        return [[]]
    return [[first] + rest for first in range(1, many + 1) for rest in all_lines(many - first)]


class TestBadness(ShopCase):
    """Point 18.3."""

    def test_some(self):
        self.same(badness([3, 2, 2, 5], 6, [2, 1, 1]), 16)
        self.same(badness([3, 2, 2, 5], 6, [1, 2, 1]), 10)
        self.same(badness([3, 2, 2, 5], 6, [1, 1, 1, 1]), 9 + 16 + 16)
        self.same(badness([3], 3, [1]), 0)
        self.same(badness([3], 9, [1]), 0)
        self.same(badness([3, 4], 9, [1, 1]), 36)
        self.same(badness([3, 4], 9, [2]), 0)

    def test_lines_that_are_filled_exactly_and_by_one_too_much(self):
        self.same(badness([3, 2, 9], 6, [2, 1]), None)
        self.same(badness([3, 2, 6], 6, [2, 1]), 0)
        self.same(badness([3, 3, 6], 6, [2, 1]), None)
        self.same(badness([3, 3, 6], 7, [2, 1]), 0)
        # The last line must not be too wide either.
        self.same(badness([3, 3], 7, [2]), 0)
        self.same(badness([3, 3], 6, [2]), None)
        self.same(badness([1, 1, 1, 1], 7, [4]), 0)
        self.same(badness([1, 1, 1, 1], 6, [4]), None)

    def test_wrong_numbers(self):
        for lines in ([], [1], [2], [1, 1], [4], [1, 2, 1], [3, 0], [0, 3], [0, 1, 2], [4, -1], [-1, 4], [1, 1, 1, 0],
                      [5, -2], [2, 2, -1]):
            self.same(badness([2, 2, 2], 99, lines), None, lines)
        for lines in ([3], [1, 2], [2, 1], [1, 1, 1]):
            self.same(type(badness([2, 2, 2], 99, lines)), int)

    def test_all_lines(self):
        rng = random.Random(185)
        for _ in range(60):
            widths = [rng.randint(1, 6) for _ in range(rng.randint(1, 6))]
            width = max(widths) + rng.randint(0, 8)
            for many in range(len(widths) + 2):
                for lines in itertools.product(range(-1, 4), repeat=many if many < 5 else 0):
                    wanted = told_badness(widths, width, list(lines))
                    self.same(badness(widths, width, list(lines)), wanted, (widths, width, lines))


class TestBestLines(ShopCase):
    """Point 18.3."""

    def test_some(self):
        self.same(best_lines([3, 2, 2, 5], 6), [1, 2, 1])
        self.same(best_lines([4], 4), [1])
        self.same(best_lines([4], 40), [1])
        self.same(best_lines([1, 1, 1], 5), [3])
        self.same(best_lines([1, 1, 1], 4), [2, 1])
        self.same(best_lines([1000, 1000], 1000), [1, 1])
        self.same(best_lines([1000, 1000], 2001), [2])
        self.same(best_lines([1000, 1000], 2000), [1, 1])
        # As bad, but the first one in the order of Python.
        self.same(badness([2, 1, 2, 6], 6, [2, 1, 1]), badness([2, 1, 2, 6], 6, [1, 2, 1]))
        self.same(best_lines([2, 1, 2, 6], 6), [1, 2, 1])
        self.same(best_lines([1, 1, 1, 1, 1], 3), [2, 2, 1])

    def test_all_lines(self):
        rng = random.Random(186)
        equal = 0
        for _ in range(250):
            most = rng.choice((2, 3, 3, 6))
            widths = [rng.randint(1, most) for _ in range(rng.randint(1, 9))]
            width = max(widths) + rng.randint(0, most)
            rows = [(told_badness(widths, width, lines), lines) for lines in all_lines(len(widths))]
            least = min(row for row in rows if row[0] is not None)
            equal += [row[0] for row in rows].count(least[0]) > 1
            self.same(self.pure(best_lines, widths, width), least[1], (widths, width))
            self.same(self.pure(badness, widths, width, least[1]), least[0])
        self.assertGreater(equal, 10)


class TestSoon(ShopCase):
    """Point 0.2: 60 words in lines."""

    def test_sixty_words(self):
        rng = random.Random(187)
        for width in (12, 30, 72, 1000):
            widths = [rng.randint(1, 12) for _ in range(60)]
            lines = best_lines(widths, width)
            least = badness(widths, width, lines)
            self.same(least, told_badness(widths, width, lines))
            # No word goes better onto the line before or behind it.
            for at in range(len(lines) - 1):
                for more in (-1, 1):
                    other = lines[:at] + [lines[at] + more, lines[at + 1] - more] + lines[at + 2:]
                    found = badness(widths, width, other)
                    self.assertTrue(found is None or (found, other) > (least, lines))


if __name__ == "__main__":
    unittest.main()
