"""Part 17: counters that are wrong."""

import itertools
import random
import unittest

from foldandbound.counters import (
    check_counts, counts_paper, is_counters, least_error, needless_bounds, ranges, tightest, told_bounds)
from foldandbound.errors import NoCounts
from tests.support import JUNK, ShopCase, corrupted

CYCLE = ((0, 1, 2), (1, 0, -3))


def fits(bounds, numbers):
    value = numbers + (0,)
    return all(value[j] - value[i] <= most for i, j, most in bounds)


def longest_way(n, bounds):
    """What a difference that has a bound cannot exceed: a way over all counts."""
    return sum(sorted((abs(most) for _, _, most in bounds), reverse=True)[:n + 1])


def all_tuples(n, bounds):
    """All tuples with numbers so great that a difference without a bound exceeds all those with one."""
    reach = 4 * longest_way(n, bounds) + 2
    return itertools.product(range(-reach, reach + 1), repeat=n)


def all_fitting(n, bounds):
    return [numbers for numbers in all_tuples(n, bounds) if fits(bounds, numbers)]


def greatest_difference(n, bounds, fitting, i, j):
    """The greatest difference of the counts j and i, or None if there is none."""
    greatest = max((numbers + (0,))[j] - (numbers + (0,))[i] for numbers in fitting)
    return greatest if greatest <= longest_way(n, bounds) else None


def told_tightest(n, bounds):
    fitting = all_fitting(n, bounds)
    found = []
    for i, j in itertools.permutations(range(-1, n), 2):
        most = greatest_difference(n, bounds, fitting, i, j)
        if most is not None:
            found.append((i, j, most))
    return tuple(sorted(found))


def random_bounds(rng, n, most, many=None):
    many = rng.randint(0, 6) if many is None else many
    if n == 0:
        return ()
    return tuple(tuple(rng.sample(range(-1, n), 2)) + (rng.randint(-most, most),) for _ in range(many))


def small_systems(rng, many):
    """Random numbers of counts with bounds, so small that all numbers can be tried."""
    for _ in range(many):
        n = rng.choice((0, 1, 1, 2, 2, 2, 3))
        yield n, random_bounds(rng, n, {0: 0, 1: 3, 2: 2, 3: 1}[n])


class TestIsCounters(ShopCase):
    """Point 17.1."""

    def test_counts_of_a_bound(self):
        for n in range(0, 4):
            self.true(is_counters(n, ()))
            for i, j in itertools.product(range(-2, 5), repeat=2):
                wanted = i != j and -1 <= i < n and -1 <= j < n
                self.same(is_counters(n, ((i, j, 5),)), wanted, (n, i, j))

    def test_numbers_of_bounds(self):
        for many in (0, 1, 59, 60, 61, 100):
            self.same(is_counters(2, ((0, 1, 3),) * many), many <= 60, many)

    def test_any_number_is_a_most(self):
        for most in (0, -1, 7, 10 ** 30, -10 ** 30):
            self.true(is_counters(1, ((-1, 0, most),)))

    def test_wrong_values(self):
        self.refuses_junk(lambda value: is_counters(3, value), ())
        self.refuses_junk(lambda value: is_counters(64, ((value, 5, 1),)), 0, 1, 2, 63, -1)
        self.refuses_junk(lambda value: is_counters(64, ((5, value, 1),)), 0, 1, 2, 63, -1)
        self.refuses_junk(lambda value: is_counters(2, ((0, 1, value),)), 0, 1, 2, -1, 63, 10 ** 30)
        self.refuses_junk(lambda value: is_counters(2, ((0, 1, 1), value)))
        bounds = ((0, 1, 4), (2, 0, 3))
        self.true(is_counters(3, bounds))
        for value in corrupted(bounds):
            # -1 is a right number at each of these places.
            right = value in [bounds[:at] + (bound[:k] + (-1,) + bound[k + 1:],) + bounds[at + 1:]
                              for at, bound in enumerate(bounds) for k in range(3)]
            if not right:
                self.false(is_counters(3, value), value)
        for value in ([(0, 1, 2)], ([0, 1, 2],), ((0, 1),), ((0, 1, 2, 3),), (0, 1, 2), ((0, 1, True),), ((0, 1, 2.0),),
                      ((False, 1, 2),), ((0, True, 2),), ((0, 1, None),), ((-1, -1, 0),), ((0, 0, 5),)):
            self.false(is_counters(3, value), value)

    def test_told_bounds(self):
        self.same(told_bounds([7], 2), ((-1, 0, 9), (0, -1, -5)))
        self.same(told_bounds([], 2), ())
        self.same(self.pure(told_bounds, [7, -3], 0), ((-1, 0, 7), (0, -1, -7), (-1, 1, -3), (1, -1, 3)))
        for told, wrong in (([5, 0, 9], 0), ([5, 0, 9], 1), ([-4, 3, 1], 2)):
            bounds = told_bounds(told, wrong)
            self.true(is_counters(3, bounds))
            for numbers in itertools.product(range(-7, 13), repeat=3):
                wanted = all(abs(number - one) <= wrong for number, one in zip(numbers, told))
                self.same(fits(bounds, numbers), wanted)


class TestCountsPaper(ShopCase):
    """Point 17.2."""

    def right_paper(self, n, bounds):
        paper = self.pure(counts_paper, n, bounds)
        self.true(self.pure(check_counts, n, bounds, paper), (n, bounds, paper))
        word, told = paper
        self.same(type(told), tuple)
        if word == "fits":
            self.same(len(told), n)
            self.true(fits(bounds, told), (bounds, told))
        else:
            self.same(word, "cycle")
            self.assertTrue(told)
            for one, other in zip(told, told[1:] + told[:1]):
                self.same(bounds[one][1], bounds[other][0], (bounds, told))
            self.assertLess(sum(bounds[number][2] for number in told), 0)
        return word

    def test_some(self):
        self.same(counts_paper(0, ()), ("fits", ()))
        self.same(self.right_paper(3, ()), "fits")
        self.same(self.right_paper(2, CYCLE), "cycle")
        self.same(self.right_paper(2, ((0, 1, 2), (1, 0, -2))), "fits")
        self.same(self.right_paper(1, ((-1, 0, 4), (0, -1, -4))), "fits")
        self.same(self.right_paper(1, ((-1, 0, 4), (0, -1, -5))), "cycle")
        self.same(self.right_paper(1, ((-1, 0, 4), (0, -1, -4), (-1, 0, 3))), "cycle")

    def test_small_systems(self):
        rng = random.Random(171)
        words = {"fits": 0, "cycle": 0}
        for n, bounds in small_systems(rng, 500):
            word = self.right_paper(n, bounds)
            self.same(word == "fits", len(all_fitting(n, bounds)) > 0, (n, bounds))
            words[word] += 1
        self.assertGreater(min(words.values()), 80)

    def test_long_cycles(self):
        for n in (5, 10, 20):
            for total in (-1, 0, 1):
                row = [(k, (k + 1) % n, 3) for k in range(n - 1)] + [(n - 1, 0, total - 3 * (n - 1))]
                for bounds in (tuple(row), tuple(row[::-1]), tuple(row) + ((-1, 0, 0), (3, -1, 8))):
                    self.same(self.right_paper(n, bounds), "cycle" if total < 0 else "fits", bounds)

    def test_random_systems(self):
        rng = random.Random(172)
        words = {"fits": 0, "cycle": 0}
        for _ in range(300):
            n = rng.randint(2, 10)
            bounds = random_bounds(rng, n, rng.choice((2, 10, 10 ** 12)), rng.randint(1, 30))
            words[self.right_paper(n, bounds)] += 1
        self.assertGreater(min(words.values()), 50)

    def test_tuples(self):
        bounds = ((-1, 0, 3), (0, 1, -1), (1, -1, 1))
        for numbers in itertools.product(range(-4, 6), repeat=2):
            self.same(check_counts(2, bounds, ("fits", numbers)), fits(bounds, numbers), numbers)
        for value in ((), (1,), (1, 0, 0), [1, 0], (True, 0), (1, False), (1.0, 0), "ab", (1, None), ((1, 0),)):
            self.false(check_counts(2, bounds, ("fits", value)), value)
        self.true(check_counts(2, (), ("fits", (10 ** 30, -5))))

    def test_cycles(self):
        bounds = ((0, 1, 2), (1, 0, -3), (1, 2, 0), (2, 0, -2), (0, -1, 0), (-1, 0, 0))
        for value in ((0, 1), (1, 0), (0, 1, 0, 1), (0, 1, 4, 5), (4, 5, 0, 1), (0, 2, 3, 0, 1), (5, 0, 1, 4)):
            self.true(check_counts(3, bounds, ("cycle", value)), value)
        # Sums of 0, bounds that do not follow each other, numbers that are none.
        for value in ((0, 2, 3), (4, 5), (), (1,), (0, 1, 0), (0, 3), (1, 1), (1, 3), (0, 6), (-5, 1), (0, -5), (6,),
                      [0, 1], (False, True), (0, True), (0.0, 1), ("0", "1"), (0, 1, None), ((0, 1),), bounds[:2]):
            self.false(check_counts(3, bounds, ("cycle", value)), value)
        self.false(check_counts(2, ((0, 1, -5),), ("cycle", (0,))))
        self.false(check_counts(2, (), ("cycle", ())))

    def test_all_short_cycles(self):
        rng = random.Random(173)
        for _ in range(30):
            bounds = random_bounds(rng, 3, 2, 4)
            for many in range(0, 5):
                for value in itertools.product(range(-1, 5), repeat=many):
                    can_be = many > 0 and all(0 <= number < 4 for number in value)
                    wanted = can_be and sum(bounds[number][2] for number in value) < 0 and all(
                        bounds[value[at]][1] == bounds[value[(at + 1) % many]][0] for at in range(many))
                    self.same(check_counts(3, bounds, ("cycle", value)), wanted, (bounds, value))

    def test_never_both(self):
        rng = random.Random(174)
        for n, bounds in small_systems(rng, 100):
            word = counts_paper(n, bounds)[0]
            if word == "cycle":
                for numbers in itertools.product(range(-4, 5), repeat=n):
                    self.false(check_counts(n, bounds, ("fits", numbers)))

    def test_wrong_values(self):
        # -1 is no right number in any of these papers.
        for n, bounds in ((2, ((-1, 0, 3), (0, 1, -1), (1, -1, -1))), (2, CYCLE)):
            paper = counts_paper(n, bounds)
            for value in corrupted(paper):
                self.false(check_counts(n, bounds, value), value)
            self.refuses_junk(lambda value: check_counts(n, bounds, value))
            self.refuses_junk(lambda value: check_counts(n, bounds, (value, paper[1])))
            self.refuses_junk(lambda value: check_counts(n, bounds, ("cycle", value)))
            for value in (paper[:1], paper + (1,), paper[1], (paper,)):
                self.false(check_counts(n, bounds, value), value)
        self.refuses_junk(lambda value: check_counts(3, (), ("fits", value)), (1, 2, 3))
        self.refuses_junk(lambda value: check_counts(1, (), ("fits", (value,))), 0, 1, 2, -1, 63, 10 ** 30)


class TestRanges(ShopCase):
    """Point 17.3."""

    def test_some(self):
        self.same(ranges(2, told_bounds([7, 9], 2) + ((1, 0, 0), (0, 1, 1))), [(6, 9), (7, 10)])
        self.same(ranges(0, ()), [])
        self.same(ranges(2, ()), [(None, None), (None, None)])
        self.same(ranges(2, ((-1, 0, 4),)), [(None, 4), (None, None)])
        self.same(ranges(2, ((0, -1, 4),)), [(-4, None), (None, None)])
        self.same(ranges(2, ((-1, 0, 4), (0, 1, 3))), [(None, 4), (None, 7)])
        self.same(ranges(2, ((-1, 0, 4), (1, 0, 3))), [(None, 4), (None, None)])
        self.same(ranges(2, ((0, 1, 3), (1, 0, -3))), [(None, None), (None, None)])
        self.same(ranges(1, ((-1, 0, 4), (-1, 0, 4), (-1, 0, 5))), [(None, 4)])
        self.same(ranges(1, ((-1, 0, 4), (0, -1, -4))), [(4, 4)])

    def test_tightest(self):
        self.same(tightest(0, ()), ())
        self.same(tightest(2, ()), ())
        self.same(tightest(2, ((0, 1, 3),)), ((0, 1, 3),))
        self.same(tightest(2, ((0, 1, 3), (0, 1, 2))), ((0, 1, 2),))
        self.same(tightest(2, ((-1, 0, 4), (0, 1, 3))), ((-1, 0, 4), (-1, 1, 7), (0, 1, 3)))
        self.same(tightest(2, ((0, 1, 0), (1, -1, -2))), ((0, -1, -2), (0, 1, 0), (1, -1, -2)))

    def test_small_systems(self):
        rng = random.Random(175)
        some = 0
        for n, bounds in small_systems(rng, 250):
            fitting = all_fitting(n, bounds)
            if not fitting:
                self.fails(NoCounts, ranges, n, bounds)
                self.fails(NoCounts, tightest, n, bounds)
                continue
            some += 1
            pairs = []
            for k in range(n):
                low = greatest_difference(n, bounds, fitting, k, -1)
                pairs.append((None if low is None else -low, greatest_difference(n, bounds, fitting, -1, k)))
            self.same(self.pure(ranges, n, bounds), pairs, (n, bounds))
            tight = told_tightest(n, bounds)
            self.same(self.pure(tightest, n, bounds), tight, (n, bounds))
            self.same([numbers for numbers in all_fitting(n, bounds) if fits(tight, numbers)], fitting)
        self.assertGreater(some, 150)

    def test_no_counts(self):
        for function in (ranges, tightest, needless_bounds):
            self.fails(NoCounts, function, 2, CYCLE)
            self.fails(NoCounts, function, 3, ((-1, 2, 5),) + CYCLE)
            self.fails(NoCounts, function, 1, ((-1, 0, 4), (0, -1, -5)))
            function(1, ((-1, 0, 4), (0, -1, -4)))
        self.fails(NoCounts, least_error, 2, CYCLE, [0, 0])
        self.fails(NoCounts, least_error, 1, ((-1, 0, 4), (0, -1, -5)), [4])


class TestNeedless(ShopCase):
    """Point 17.4, the first half."""

    def test_some(self):
        self.same(needless_bounds(2, ()), [])
        self.same(needless_bounds(2, ((0, 1, 3),)), [])
        # Bounds that stand twice: each one alone can be left out.
        self.same(needless_bounds(2, ((0, 1, 3), (0, 1, 3))), [0, 1])
        self.same(needless_bounds(2, ((0, 1, 3), (0, 1, 4))), [1])
        self.same(needless_bounds(2, ((-1, 0, 3), (0, 1, 2), (-1, 1, 5))), [2])
        self.same(needless_bounds(2, ((-1, 0, 3), (0, 1, 2), (-1, 1, 4))), [])
        self.same(needless_bounds(2, ((-1, 0, 3), (0, 1, 2), (-1, 1, 6))), [2])
        self.same(needless_bounds(2, ((0, 1, 3), (1, 0, 3))), [])

    def test_small_systems(self):
        rng = random.Random(176)
        found = []
        for n, bounds in small_systems(rng, 250):
            if counts_paper(n, bounds)[0] == "fits":
                wanted = []
                for number in range(len(bounds)):
                    others = bounds[:number] + bounds[number + 1:]
                    if all(fits(bounds, numbers) for numbers in all_tuples(n, bounds) if fits(others, numbers)):
                        wanted.append(number)
                found.append(self.pure(needless_bounds, n, bounds))
                self.same(found[-1], wanted, (n, bounds))
        self.assertGreater(len([row for row in found if row]), 40)


class TestLeastError(ShopCase):
    """Point 17.4, the second half."""

    def test_some(self):
        self.same(least_error(0, (), []), 0)
        self.same(least_error(2, (), [5, -9]), 0)
        # With no error, and only with one.
        self.same(least_error(1, ((-1, 0, 4),), [4]), 0)
        self.same(least_error(1, ((-1, 0, 4),), [5]), 1)
        self.same(least_error(1, ((-1, 0, 4),), [9]), 5)
        self.same(least_error(1, ((0, -1, -4),), [4]), 0)
        self.same(least_error(1, ((0, -1, -4),), [1]), 3)
        # Two counts share what they are off by.
        self.same(least_error(2, ((0, 1, 0),), [3, 4]), 1)
        self.same(least_error(2, ((0, 1, 0),), [3, 5]), 1)
        self.same(least_error(2, ((0, 1, 0),), [3, 6]), 2)
        self.same(least_error(2, ((0, 1, 0),), [6, 3]), 0)
        self.same(least_error(2, ((0, 1, 0), (-1, 0, 3)), [3, 9]), 6)
        self.same(least_error(2, ((0, 1, 0), (-1, 0, 6)), [3, 9]), 3)
        self.same(least_error(2, ((0, 1, 0), (-1, 0, 3)), [5, 3]), 2)

    def test_random_systems(self):
        rng = random.Random(177)
        found = []
        for _ in range(400):
            n = rng.randint(1, 5)
            bounds = random_bounds(rng, n, 4, rng.randint(0, 7))
            told = [rng.randint(-12, 12) for _ in range(n)]
            if counts_paper(n, bounds)[0] == "cycle":
                self.fails(NoCounts, least_error, n, bounds, told)
                continue
            wrong = 0
            while counts_paper(n, bounds + told_bounds(told, wrong))[0] == "cycle":
                wrong += 1
            found.append(wrong)
            self.same(self.pure(least_error, n, bounds, told), wrong, (n, bounds, told))
        self.assertGreater(len(set(found)), 8)

    def test_against_all_tuples(self):
        rng = random.Random(178)
        for _ in range(100):
            bounds = random_bounds(rng, 2, 3, rng.randint(0, 4))
            told = [rng.randint(-5, 5), rng.randint(-5, 5)]
            errors = [max(abs(number - one) for number, one in zip(numbers, told))
                      for numbers in itertools.product(range(-25, 26), repeat=2) if fits(bounds, numbers)]
            if errors:
                self.same(least_error(2, bounds, told), min(errors), (bounds, told))


class TestSoon(ShopCase):
    """Point 0.2: 10 counters and 30 bounds."""

    def test_ten_counters(self):
        rng = random.Random(179)
        for _ in range(30):
            bounds = random_bounds(rng, 10, 5, 15) + told_bounds([rng.randint(0, 9) for _ in range(10)], 9)[:15]
            paper = counts_paper(10, bounds)
            self.true(check_counts(10, bounds, paper))
            if paper[0] == "fits":
                tight = tightest(10, bounds)
                self.same(ranges(10, bounds), ranges(10, tight))
                self.same(tightest(10, tight), tight)
                needless_bounds(10, bounds)
                least_error(10, bounds, [rng.randint(0, 10 ** 9) for _ in range(10)])

    def test_values_that_are_no_papers(self):
        self.assertEqual([value for value in JUNK if check_counts(2, CYCLE, value) is not False], [])


if __name__ == "__main__":
    unittest.main()
