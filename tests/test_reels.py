"""Part 26: reels."""

import functools
import itertools
import random
import unittest

from foldandbound.reels import (
    best_reel_plan, check_reel_table, fewest_reels, is_reel_plan, least_waste, reel_table)
from tests.support import ShopCase, corrupted

THREE = (10, (3, 4, 6), (2, 2, 1))


def told_use(length, widths, counts):
    """The least pair of the number of reels and the length used of the last one, over all rows of the strips."""
    strips = [width for width, count in zip(widths, counts) for _ in range(count)]

    @functools.lru_cache(None)
    def fill(left):
        """All pairs of what is left, and of the length used, when one more reel was filled in any way."""
        found = set()
        for picked in itertools.product((0, 1), repeat=len(left)):
            some = [width for width, pick in zip(left, picked) if pick]
            if some and sum(some) <= length:
                rest = tuple(width for width, pick in zip(left, picked) if not pick)
                found.add((rest, sum(some)))
        return found

    reached = {(tuple(strips), length)}
    reels = 0
    while not any(left == () for left, _ in reached):
        reels += 1
        reached = {pair for left, _ in reached for pair in fill(left)}
    return (reels, min(used for left, used in reached if left == ()))


def told_table(length, widths, numbers):
    rows = []
    for counts in itertools.product(*[range(number + 1) for number in numbers]):
        rows.append((counts,) + told_use(length, widths, counts))
    return tuple(rows)


def random_reels(rng, most=6):
    """Random lengths, widths and numbers."""
    length = rng.randint(5, 15)
    widths = tuple(sorted(rng.sample(range(1, length + 1), rng.randint(1, 4))))
    numbers = [0] * len(widths)
    for _ in range(rng.randint(0, most)):
        numbers[rng.randrange(len(widths))] += 1
    return length, widths, tuple(numbers)


class TestPlans(ShopCase):
    """Point 26.1."""

    def test_good_plans(self):
        for plan in (((4, 6), (3, 3, 4)), ((3, 3), (4, 4), (6,)), ((3,), (3,), (4,), (4,), (6,)), ((6,), (4,), (3, 3), (4,)),
                     ((4, 6), (3, 3, 4), (3,)), ((4, 6), (3, 3, 4), (3, 3, 3))):
            self.true(self.pure(is_reel_plan, *THREE, plan), plan)

    def test_plans_that_do_not_serve(self):
        for plan in ((), ((4, 6), (3, 4)), ((4, 6), (3, 3)), ((3, 3, 4), (4,)), ((3, 3, 4), (4, 4))):
            self.false(is_reel_plan(*THREE, plan), plan)

    def test_reels_that_cannot_be(self):
        for reel in ((), (6, 4), (4, 3), (3, 4, 3), (3, 3, 3, 3), (3, 4, 4), (5,), (3, 5), (0,), (0, 3), (-3,), (-3, 6, 6), (10,),
                     (7,), (True,), (3.0,), ("3",), (None,), ((3,),), [3], 3, None, "3", {3: 3}, (3, 3, True)):
            self.false(is_reel_plan(*THREE, ((4, 6), (3, 3, 4), reel)), reel)
            self.false(is_reel_plan(*THREE, (reel, (4, 6), (3, 3, 4))), reel)

    def test_exactly_used_and_overfilled_by_one(self):
        for length in (9, 10, 11):
            self.same(is_reel_plan(length, (3, 4), (2, 1), ((3, 3, 4),)), length >= 10)
        for length in (6, 7, 8):
            self.same(is_reel_plan(length, (length, ), (1,), ((length,),)), True)
            self.same(is_reel_plan(length, (1, length), (1, 1), ((1, length),)), False)

    def test_nothing_wanted(self):
        for widths, numbers in (((3,), (0,)), ((3, 4), (0, 0))):
            self.true(is_reel_plan(10, widths, numbers, ()))
            self.true(is_reel_plan(10, widths, numbers, ((3,),)))
            self.false(is_reel_plan(10, widths, numbers, ((),)))

    def test_true_is_no_width(self):
        self.true(is_reel_plan(3, (1, 2), (1, 1), ((1, 2),)))
        self.false(is_reel_plan(3, (1, 2), (1, 1), ((True, 2),)))
        self.false(is_reel_plan(3, (1, 2), (1, 1), ((1.0, 2),)))

    def test_wrong_values(self):
        self.refuses_junk(lambda value: is_reel_plan(*THREE, value))
        self.refuses_junk(lambda value: is_reel_plan(*THREE, (value, (4, 6), (3, 3, 4))))
        self.refuses_corrupted(lambda value: is_reel_plan(*THREE, value), ((4, 6), (3, 3, 4)))
        for value in ([(4, 6), (3, 3, 4)], ([4, 6], (3, 3, 4)), (4, 6, 3, 3, 4), "46", (((4, 6), (3, 3, 4)),)):
            self.false(is_reel_plan(*THREE, value), value)


class TestTables(ShopCase):
    """Point 26.2."""

    def test_some(self):
        self.same(self.pure(reel_table, 10, (3, 4), (1, 1)),
                  (((0, 0), 0, 10), ((0, 1), 1, 4), ((1, 0), 1, 3), ((1, 1), 1, 7)))
        self.same(reel_table(10, (5,), (3,)), (((0,), 0, 10), ((1,), 1, 5), ((2,), 1, 10), ((3,), 2, 5)))
        self.same(reel_table(10, (10,), (2,)), (((0,), 0, 10), ((1,), 1, 10), ((2,), 2, 10)))
        self.same(reel_table(10, (6,), (2,)), (((0,), 0, 10), ((1,), 1, 6), ((2,), 2, 6)))
        self.same(reel_table(10, (3, 9), (0, 0)), (((0, 0), 0, 10),))
        self.same(reel_table(10000, (1, 10000), (1, 0)), (((0, 0), 0, 10000), ((1, 0), 1, 1)))

    def test_random_strips(self):
        rng = random.Random(261)
        for _ in range(80):
            arguments = random_reels(rng, 5)
            table = self.pure(reel_table, *arguments)
            self.same(table, told_table(*arguments), arguments)
            self.true(self.pure(check_reel_table, *arguments, table))

    def test_changed_tables(self):
        table = reel_table(*THREE)
        self.same(table, tuple(sorted(table)))
        self.true(check_reel_table(*THREE, table))
        for at, (counts, reels, used) in enumerate(table):
            for row in ((counts, reels, used + 1), (counts, reels, used - 1), (counts, reels + 1, used), (counts, reels - 1, used),
                        (counts, used, reels), (counts[::-1], reels, used), (list(counts), reels, used), (counts, reels),
                        (counts, reels, used, 0), [counts, reels, used], counts, ()):
                value = table[:at] + (row,) + table[at + 1:]
                self.same(check_reel_table(*THREE, value), row == (counts, reels, used), row)
            self.false(check_reel_table(*THREE, table[:at] + table[at + 1:]))
            self.false(check_reel_table(*THREE, table[:at + 1] + table[at:]))
            if at > 0:
                self.false(check_reel_table(*THREE, table[:at - 1] + (table[at], table[at - 1]) + table[at + 1:]))
        for value in (table[::-1], list(table), table + (((2, 2, 2), 3, 3),), (), table[0], (table,)):
            self.false(check_reel_table(*THREE, value))
        # The table of other strips.
        for other in ((11,) + THREE[1:], (10, (3, 4, 5), (2, 2, 1)), (10, (3, 4, 6), (2, 1, 2))):
            self.false(check_reel_table(*other, table))

    def test_wrong_values(self):
        arguments = (10, (3, 4), (1, 1))
        self.refuses_junk(lambda value: check_reel_table(*arguments, value))
        table = reel_table(*arguments)
        for value in corrupted(table):
            self.false(check_reel_table(*arguments, value), value)
        self.refuses_junk(lambda value: check_reel_table(*arguments, (value,) + table[1:]))
        # 1 and 0 by other kinds.
        self.false(check_reel_table(3, (3,), (1,), (((False,), 0, 3), ((1,), 1, 3))))
        self.false(check_reel_table(3, (3,), (1,), (((0,), 0, 3), ((1,), True, 3))))
        self.false(check_reel_table(3, (3,), (1,), (((0,), 0, 3), ((1,), 1, 3.0))))


class TestFewest(ShopCase):
    """Point 26.3."""

    def test_some(self):
        for arguments, reels, waste in ((THREE, 2, 0), ((10, (3, 4, 6), (0, 0, 0)), 0, 0), ((10, (6,), (3,)), 3, 12),
                                        ((10, (5,), (9,)), 5, 5), ((10, (10,), (2,)), 2, 0), ((10, (1, 9), (1, 1)), 1, 0),
                                        ((10, (2, 9), (1, 1)), 2, 9), ((1, (1,), (9,)), 9, 0), ((10000, (1,), (1,)), 1, 9999)):
            self.same(self.pure(fewest_reels, *arguments), reels, arguments)
            self.same(self.pure(least_waste, *arguments), waste, arguments)
            plan = self.pure(best_reel_plan, *arguments)
            self.same(len(plan), reels)
            self.true(is_reel_plan(*arguments, plan), plan)

    def test_random_strips(self):
        rng = random.Random(262)
        for _ in range(150):
            length, widths, numbers = arguments = random_reels(rng, 6)
            reels = told_use(length, widths, numbers)[0]
            self.same(fewest_reels(*arguments), reels, arguments)
            plan = self.pure(best_reel_plan, *arguments)
            self.same(len(plan), reels)
            self.true(is_reel_plan(*arguments, plan), plan)
            self.same(least_waste(*arguments), reels * length - sum(map(int.__mul__, widths, numbers)))

    def test_twelve_strips_end_soon(self):
        rng = random.Random(263)
        for _ in range(20):
            widths = tuple(sorted(rng.sample(range(500, 6000), 5)))
            for numbers in ((3, 3, 2, 2, 2), (0, 9, 1, 1, 1), (9, 3, 0, 0, 0), (2, 3, 2, 3, 2)):
                arguments = (10000, widths, numbers)
                plan = best_reel_plan(*arguments)
                self.true(is_reel_plan(*arguments, plan))
                self.same(len(plan), fewest_reels(*arguments))
                self.true(check_reel_table(*arguments, reel_table(*arguments)))


if __name__ == "__main__":
    unittest.main()
