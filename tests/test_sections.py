"""Part 6: documents and sections."""

import itertools
import random
import unittest

from foldandbound.errors import NoPage, TooThick
from foldandbound.folding import folded
from foldandbound.jobs import makes, plates_of, printed
from foldandbound.reading import is_right, reading
from foldandbound.sections import best_sections, creep, nested_pages, place_of_page
from tests.support import ShopCase


def sums_of(most, sizes):
    """All descending lists of sizes with a sum of at most so much."""
    found = [[]]
    for row in found:
        for size in sizes:
            if sum(row) + size <= most and (not row or size <= row[-1]):
                found.append(row + [size])
    return found


class TestBestSections(ShopCase):
    """Point 6.1."""

    def test_some(self):
        self.same(best_sections(21, (4, 8, 16)), [16, 8])
        self.same(best_sections(1, (4, 8)), [4])
        self.same(best_sections(1, (2,)), [2])
        self.same(best_sections(2, (2,)), [2])
        self.same(best_sections(3, (2,)), [2, 2])
        self.same(best_sections(64, (64,)), [64])
        self.same(best_sections(65, (64,)), [64, 64])
        # Least sum goes before fewest sections, and these before the greatest first one.
        self.same(best_sections(12, (4, 6, 8, 10)), [8, 4])
        self.same(best_sections(9, (4, 10, 16)), [10])
        self.same(best_sections(11, (4, 10, 16)), [4, 4, 4])
        self.same(best_sections(12, (4, 10, 16)), [4, 4, 4])
        self.same(best_sections(24, (2, 8, 12, 14)), [12, 12])
        self.same(best_sections(20, (4, 6, 10, 14, 16)), [16, 4])
        self.same(best_sections(18, (6, 10)), [6, 6, 6])
        self.same(best_sections(13, (6, 10)), [10, 6])

    def test_all_small_documents(self):
        rng = random.Random(61)
        choices = [(2,), (4,), (6, 10), (4, 8, 16), (2, 4, 6, 8), (6, 8, 14), (8, 12), (10, 12, 14, 16), (6, 10, 16)]
        choices += [tuple(sorted(rng.sample(range(2, 22, 2), rng.randint(2, 5)))) for _ in range(8)]
        for sizes in choices:
            rows = sums_of(min(40 + sizes[0], 15 * sizes[0]), sizes)
            for n in range(1, min(40, 14 * sizes[0])):
                able = [row for row in rows if sum(row) >= n]
                least = min(sum(row) for row in able)
                able = [row for row in able if sum(row) == least]
                fewest = min(len(row) for row in able)
                wanted = max(row for row in able if len(row) == fewest)
                self.same(best_sections(n, sizes), wanted, (n, sizes))

    def test_large_documents(self):
        self.same(self.pure(best_sections, 9999, (64,)), [64] * 157)
        self.same(best_sections(9999, (62, 64)), [64] * 133 + [62] * 24)
        found = best_sections(9999, tuple(range(2, 65, 2)))
        self.same((sum(found), len(found), found), (10000, 157, [64] * 156 + [16]))
        found = best_sections(9998, (4, 8, 16, 32))
        self.same(found, [32] * 312 + [16])


class TestNestedPages(ShopCase):
    """Point 6.2."""

    def test_some(self):
        self.same(nested_pages(1), [(4, 1, 2, 3)])
        self.same(nested_pages(2), [(8, 1, 2, 7), (6, 3, 4, 5)])
        self.same(nested_pages(3), [(12, 1, 2, 11), (10, 3, 4, 9), (8, 5, 6, 7)])
        self.same(self.pure(nested_pages, 16)[0], (64, 1, 2, 63))
        for s in range(1, 17):
            self.same(sorted(page for sheet in nested_pages(s) for page in sheet), list(range(1, 4 * s + 1)))

    def test_a_nested_section_reads_right(self):
        for s in range(1, 9):
            # All sheets lie open, the innermost one on top, the inner sides up.
            lays = {}
            for i, (outer_left, outer_right, inner_left, inner_right) in enumerate(nested_pages(s)):
                lays[i] = ((((inner_left, 0), (inner_right, 0)),), (((outer_left, 0), (outer_right, 0)),))
            stack = (tuple(tuple((i, 0, column, 0, 0) for i in range(s)) for column in range(2)),)
            pile = folded(stack, ("column", 1, "low", "over"))[0][0]
            self.true(is_right(reading(lays, pile), 4 * s), s)

    def test_a_nested_section_as_a_job_book(self):
        for s in (1, 2, 5):
            job = []
            for i in range(s):
                name = "book" if i == 0 else "more"
                job += [("sheet", name, (1, 2)), ("print", name, "in" + "abcde"[i]), ("turn", name, "turn"),
                        ("print", name, "out" + "abcde"[i]), ("turn", name, "turn")]
                if i > 0:
                    job.append(("lay", "book", "more"))
            job = tuple(job + [("fold", "book", ("column", 1, "low", "over"))])
            plates = {}
            for i, (outer_left, outer_right, inner_left, inner_right) in enumerate(nested_pages(s)):
                plates["in" + "abcde"[i]] = (((inner_left, 0), (inner_right, 0)),)
                plates["out" + "abcde"[i]] = (((outer_left, 0), (outer_right, 0)),)
            self.same(plates_of(job, 4 * s), plates)
            self.true(is_right(printed(job, plates), 4 * s))
            self.assertEqual(len(makes(job)), 4 * s)


class TestCreep(ShopCase):
    """Point 6.3."""

    def test_widths(self):
        self.same(creep(1, 5, 100, 0), [100])
        self.same(creep(3, 2, 100, 10), [100, 98, 96])
        self.same(creep(4, 0, 100, 0), [100, 100, 100, 100])
        self.same(creep(2, 7, 7, 7), [7, 0])
        self.same(self.pure(creep, 5, 3, 200, 12), [200, 197, 194, 191, 188])

    def test_a_push_equal_to_most_and_one_greater(self):
        for s, t in itertools.product(range(2, 8), range(1, 6)):
            push = (s - 1) * t
            wanted = [50 - i * t for i in range(s)]
            self.same(creep(s, t, 50, push), wanted)
            self.same(creep(s, t, 50, push + 1), wanted)
            self.fails(TooThick, creep, s, t, 50, push - 1)
            self.fails(TooThick, creep, s, t, 50, 0)

    def test_one_sheet_is_never_too_thick(self):
        self.same(creep(1, 100, 10, 0), [10])


class TestPlaceOfPage(ShopCase):
    """Point 6.4."""

    def test_all_pages(self):
        for sizes in ([4], [16, 8], [8, 4, 4], [2, 2, 64], [64] * 10):
            places = [(section, number) for section, size in enumerate(sizes) for number in range(size)]
            for page in range(1, sum(sizes) + 1):
                self.same(self.pure(place_of_page, sizes, page), places[page - 1], (sizes, page))

    def test_edges(self):
        self.same(place_of_page([16, 8], 1), (0, 0))
        self.same(place_of_page([16, 8], 16), (0, 15))
        self.same(place_of_page([16, 8], 17), (1, 0))
        self.same(place_of_page([16, 8], 24), (1, 7))

    def test_no_such_page(self):
        for sizes, page in (([16, 8], 0), ([16, 8], 25), ([16, 8], -1), ([16, 8], 9999), ([], 1), ([], 0), ([4], 5)):
            self.fails(NoPage, place_of_page, sizes, page)


if __name__ == "__main__":
    unittest.main()
