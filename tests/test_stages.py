"""Part 16: two stages and washing."""

import itertools
import random
import unittest

from foldandbound.press import ends
from foldandbound.stages import (
    best_sequence, least_makespan, least_washing, makespan, washed, washing_sequence)
from tests.support import ShopCase

JOBS = (("a", 3, 2), ("b", 1, 4), ("c", 5, 1))
INKS = {"a": "red", "b": "black", "c": "red"}
WASHING = {("red", "black"): 5, ("black", "red"): 2}


def told_makespan(jobs, sequence):
    """The greatest sum of minutes on a way through all jobs that changes once from press to bindery."""
    by_word = {word: (first, second) for word, first, second in jobs}
    rows = [by_word[word] for word in sequence]
    return max([sum(first for first, _ in rows[:at + 1]) + sum(second for _, second in rows[at:])
                for at in range(len(rows))], default=0)


def told_washed(inks, washing, sequence):
    total = 0
    for at in range(len(sequence) - 1):
        pair = (inks[sequence[at]], inks[sequence[at + 1]])
        total += 0 if pair[0] == pair[1] else washing[pair]
    return total


def random_jobs(rng, most, longest=9):
    words = rng.sample(["a", "b", "c", "d", "e", "f", "ab", "press", "z"], rng.randint(0, most))
    return tuple((word, rng.randint(0, longest), rng.randint(0, longest)) for word in words)


def random_washing(rng, inks, longest=9):
    return {pair: rng.randint(0, longest) for pair in itertools.permutations(inks, 2)}


class TestTwoStages(ShopCase):
    """Point 16.1."""

    def best(self, jobs):
        sequence = self.pure(best_sequence, jobs)
        self.same(type(sequence), tuple)
        self.same(sorted(sequence), sorted(word for word, _, _ in jobs))
        least = self.pure(least_makespan, jobs)
        self.same(makespan(jobs, sequence), least)
        return least

    def test_makespan(self):
        self.same(makespan(JOBS, ("a", "b", "c")), 10)
        self.same(makespan(JOBS, ("b", "a", "c")), 10)
        self.same(makespan(JOBS, ("c", "a", "b")), 14)
        self.same(makespan(JOBS, ("a", "c", "b")), 13)
        self.same(makespan((), ()), 0)
        self.same(makespan((("a", 0, 0),), ("a",)), 0)
        self.same(makespan((("a", 3, 0),), ("a",)), 3)
        self.same(makespan((("a", 0, 3),), ("a",)), 3)
        self.same(makespan((("a", 2, 3), ("b", 4, 0)), ("a", "b")), 6)
        self.same(makespan((("a", 2, 3), ("b", 2, 0)), ("a", "b")), 5)
        rng = random.Random(161)
        for _ in range(300):
            jobs = random_jobs(rng, 9)
            sequence = tuple(rng.sample([word for word, _, _ in jobs], len(jobs)))
            self.same(self.pure(makespan, jobs, sequence), told_makespan(jobs, sequence), (jobs, sequence))

    def test_least_makespan(self):
        self.same(self.best(JOBS), 10)
        self.same(self.best(()), 0)
        self.same(self.best((("a", 4, 7),)), 11)
        self.same(self.best((("a", 0, 0), ("b", 0, 0))), 0)

    def test_random_jobs(self):
        rng = random.Random(162)
        for longest in (1, 2, 4, 9):
            for _ in range(80):
                jobs = random_jobs(rng, 5, longest)
                words = [word for word, _, _ in jobs]
                wanted = min(told_makespan(jobs, sequence) for sequence in itertools.permutations(words))
                self.same(self.best(jobs), wanted, jobs)

    def test_all_jobs_of_small_minutes(self):
        for rows in itertools.product(itertools.product(range(3), repeat=2), repeat=3):
            jobs = tuple((word,) + row for word, row in zip("abc", rows))
            wanted = min(told_makespan(jobs, sequence) for sequence in itertools.permutations("abc"))
            self.same(least_makespan(jobs), wanted, jobs)
            self.same(makespan(jobs, best_sequence(jobs)), wanted, jobs)

    def test_jobs_that_are_not_bound(self):
        # Then the last one is bound when orders of the same minutes end on the press.
        rng = random.Random(163)
        for _ in range(100):
            jobs = tuple((word, first + 1, 0) for word, first, _ in random_jobs(rng, 9))
            orders = tuple((word, 0, first, 99) for word, first, _ in jobs)
            sequence = tuple(rng.sample([word for word, _, _ in jobs], len(jobs)))
            self.same(makespan(jobs, sequence), ends(orders, sequence)[-1] if jobs else 0)
            self.same(least_makespan(jobs), sum(first for _, first, _ in jobs))


class TestWashing(ShopCase):
    """Point 16.2."""

    def test_washed(self):
        self.same(washed(INKS, WASHING, ("a", "b", "c")), 7)
        self.same(washed(INKS, WASHING, ("a", "c", "b")), 5)
        self.same(washed(INKS, WASHING, ("b", "a", "c")), 2)
        self.same(washed({}, {}, ()), 0)
        self.same(washed({"a": "red"}, {}, ("a",)), 0)
        self.same(washed({"a": "red", "b": "red"}, {}, ("b", "a")), 0)
        rng = random.Random(164)
        for _ in range(100):
            inks = {word: rng.choice(("red", "blue", "black")) for word, _, _ in random_jobs(rng, 7)}
            washing = random_washing(rng, ("red", "blue", "black"))
            sequence = tuple(rng.sample(sorted(inks), len(inks)))
            self.same(self.pure(washed, inks, washing, sequence), told_washed(inks, washing, sequence))

    def test_some(self):
        self.same(least_washing(INKS, WASHING), 2)
        self.same(washing_sequence(INKS, WASHING), ("b", "a", "c"))
        self.same(least_washing({}, {}), 0)
        self.same(washing_sequence({}, {}), ())
        # All the same: the words in ascending order.
        self.same(washing_sequence({"c": "red", "a": "red", "ab": "red"}, {}), ("a", "ab", "c"))
        self.same(least_washing({"c": "red", "a": "red", "ab": "red"}, {}), 0)
        # All different.
        inks = {"a": "x", "b": "y", "c": "z"}
        washing = {("x", "y"): 9, ("y", "x"): 1, ("x", "z"): 1, ("z", "x"): 9, ("y", "z"): 9, ("z", "y"): 9}
        self.same(washing_sequence(inks, washing), ("b", "a", "c"))
        self.same(least_washing(inks, washing), 2)

    def test_ways_over_other_inks(self):
        inks = {"a": "x", "b": "x", "c": "y", "d": "z"}
        washing = {("x", "y"): 1, ("y", "x"): 1, ("x", "z"): 50, ("z", "x"): 50, ("y", "z"): 9, ("z", "y"): 50}
        self.same(least_washing(inks, washing), 10)
        self.same(washing_sequence(inks, washing), ("a", "b", "c", "d"))
        washing = {("x", "y"): 0, ("y", "x"): 0, ("x", "z"): 0, ("z", "x"): 0, ("y", "z"): 0, ("z", "y"): 0}
        self.same(washing_sequence(inks, washing), ("a", "b", "c", "d"))
        inks = {"a": "x", "b": "y", "c": "x"}
        self.same(washing_sequence(inks, {("x", "y"): 0, ("y", "x"): 0}), ("a", "b", "c"))
        self.same(washing_sequence(inks, {("x", "y"): 1, ("y", "x"): 1}), ("a", "c", "b"))

    def test_random_inks(self):
        rng = random.Random(165)
        for _ in range(150):
            many = rng.choice((1, 2, 3, 6))
            inks = {word: "ink" + "abcdef"[rng.randrange(many)] for word, _, _ in random_jobs(rng, 6)}
            washing = random_washing(rng, ["ink" + letter for letter in "abcdef"[:many]], rng.choice((1, 3, 20)))
            rows = [(told_washed(inks, washing, sequence), sequence)
                    for sequence in itertools.permutations(sorted(inks))]
            least, first = min(rows)
            self.same(self.pure(least_washing, inks, washing), least, (inks, washing))
            self.same(self.pure(washing_sequence, inks, washing), first, (inks, washing))


class TestSoon(ShopCase):
    """Points 16.1 and 16.2 name 9 jobs."""

    def test_nine_jobs(self):
        rng = random.Random(166)
        inks = {word: "i" + word for word in "abcdefghi"}
        washing = random_washing(rng, sorted(inks.values()), 30)
        sequence = washing_sequence(inks, washing)
        self.same(washed(inks, washing, sequence), least_washing(inks, washing))
        for _ in range(200):
            other = tuple(rng.sample(sequence, 9))
            self.assertGreaterEqual((washed(inks, washing, other), other), (washed(inks, washing, sequence), sequence))


if __name__ == "__main__":
    unittest.main()
