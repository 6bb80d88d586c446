"""Part 12: cutting piles together."""

import itertools
import random
import unittest

from foldandbound.pilecuts import check_steps, fewest_sheet_steps, fewest_steps, parted, steps_for
from tests.support import ShopCase, corrupted


def told_parted(n, steps):
    """The lengths of the piles, each cut by itself."""
    piles = [n]
    for line in steps:
        piles = [part for pile in piles for part in ((line, pile - line) if pile > line else (pile,))]
    return sorted(piles, reverse=True)


def told_fewest(n):
    """The fewest steps, by going on from all that can be after each step."""
    found = {(n,)}
    steps = 0
    while not any(set(piles) == {1} for piles in found):
        found = {tuple(sorted(set(told_set(piles, line)))) for piles in found for line in range(1, n)}
        steps += 1
    return steps


def told_set(piles, line):
    return [part for pile in piles for part in ((line, pile - line) if pile > line else (pile,))]


class TestSteps(ShopCase):
    """Point 12.1."""

    def test_fewest_steps(self):
        self.same([fewest_steps(n) for n in range(1, 18)], [0, 1, 2, 2, 3, 3, 3, 3, 4, 4, 4, 4, 4, 4, 4, 4, 5])
        for k in range(1, 80):
            self.same(fewest_steps(2 ** k), k)
            self.same(fewest_steps(2 ** k + 1), k + 1)
            self.same(fewest_steps(2 ** k - 1), k if k > 1 else 0)
        for n in range(1, 14):
            self.same(fewest_steps(n), told_fewest(n), n)

    def test_steps_for(self):
        self.same(steps_for(1), ())
        self.same(steps_for(2), (1,))
        for n in list(range(1, 70)) + [127, 128, 129, 1000, 1024, 1025]:
            steps = self.pure(steps_for, n)
            self.same(type(steps), tuple)
            self.same(len(steps), fewest_steps(n), n)
            self.same(told_parted(n, steps), [1] * n, (n, steps))
            self.true(self.pure(check_steps, n, steps))
            self.same(parted(n, steps), [1] * n)

    def test_parted(self):
        self.same(parted(5, ()), [5])
        self.same(parted(5, (2,)), [3, 2])
        self.same(parted(5, (2, 1)), [2, 1, 1, 1])
        self.same(parted(5, (5,)), [5])
        self.same(parted(5, (4, 4)), [4, 1])
        self.same(parted(5, (9, 5, 1)), [4, 1])
        self.same(parted(1, (1,)), [1])
        # A line at the left edges cuts nothing off.
        self.same(parted(5, (0, 2, 0)), [3, 2])
        # A pile that is as long as the number stays; only one piece is cut off at each step.
        self.same(parted(6, (3, 3)), [3, 3])
        self.same(parted(6, (3, 2)), [2, 2, 1, 1])
        self.same(parted(9, (2, 2, 2)), [3, 2, 2, 2])
        rng = random.Random(121)
        for _ in range(300):
            n = rng.randint(1, 40)
            steps = tuple(rng.randint(1, n) for _ in range(rng.randint(0, 6)))
            self.same(self.pure(parted, n, steps), told_parted(n, steps), (n, steps))

    def test_check_steps(self):
        for n in range(1, 7):
            for many in range(0, 5):
                for steps in itertools.product(range(-1, n + 3), repeat=many):
                    wanted = all(1 <= line <= n for line in steps) and told_parted(n, steps) == [1] * n
                    self.same(check_steps(n, steps), wanted, (n, steps))

    def test_steps_of_another_strip(self):
        for n in range(1, 40):
            for m in range(1, 40):
                steps = steps_for(n)
                wanted = all(line <= m for line in steps) and told_parted(m, steps) == [1] * m
                self.same(check_steps(m, steps), wanted, (m, steps))

    def test_steps_that_leave_parts_together(self):
        for k in range(2, 7):
            n = 2 ** k
            steps = steps_for(n)
            for at in range(k):
                self.false(check_steps(n, steps[:at] + steps[at + 1:]))
            self.false(check_steps(n + 1, steps))
            self.true(check_steps(n, (n - 1,) + steps))
            self.true(check_steps(n, steps + (1, 1)))
        self.false(check_steps(3, (1,)))
        self.true(check_steps(3, (1, 1)))
        self.true(check_steps(30, (1,) * 29))
        self.false(check_steps(30, (1,) * 28))

    def test_wrong_values(self):
        for n, right in ((1, [(), (1,)]), (2, [(1,), (1, 2)]), (5, [])):
            self.refuses_junk(lambda value: check_steps(n, value), *right)
            if n > 1:
                for value in corrupted(steps_for(n)):
                    self.false(check_steps(n, value), value)
        for value in ([1], (True,), (1.0,), ("1",), "1", ((1,),), (1, None), (0,), (0, 1), (1, 0), (3, 1), {1: 1}, {1}):
            self.false(check_steps(2, value), value)
        self.true(check_steps(2, (2, 1)))

    def test_sheets(self):
        self.same(fewest_sheet_steps(1, 1), 0)
        self.same(fewest_sheet_steps(1, 5), 3)
        self.same(fewest_sheet_steps(5, 1), 3)
        self.same(fewest_sheet_steps(4, 4), 4)
        self.same(fewest_sheet_steps(3, 5), 5)
        self.same(fewest_sheet_steps(16, 17), 9)
        for rows, columns in itertools.product(range(1, 10), repeat=2):
            self.same(fewest_sheet_steps(rows, columns), told_fewest(rows) + told_fewest(columns))

    def test_long_strips(self):
        steps = steps_for(10 ** 9 + 7)
        self.same(len(steps), 30)
        self.true(check_steps(10 ** 9 + 7, steps))
        self.false(check_steps(10 ** 9 + 7, steps[:-1]))
        self.same(fewest_steps(10 ** 30), 100)


if __name__ == "__main__":
    unittest.main()
