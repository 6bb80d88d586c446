"""Point 20.1: tints."""

import random
import unittest
from fractions import Fraction

from foldandbound.colours import less_colour, tint_of, within_total
from tests.support import ShopCase


def told_shares(total, weights):
    """Shares by greatest remainders, with fractions."""
    whole = sum(weights)
    exact = [Fraction(total * weight, whole) for weight in weights]
    found = [int(share) for share in exact]
    order = sorted(range(len(weights)), key=lambda k: (found[k] - exact[k], k))
    for k in order[:total - sum(found)]:
        found[k] += 1
    return found


class TestLessColour(ShopCase):
    def test_some(self):
        for tint, part, wanted in (
                ((30, 40, 50, 10), 100, (0, 10, 20, 40)), ((30, 40, 50, 10), 50, (15, 25, 35, 25)),
                ((30, 40, 50, 10), 0, (30, 40, 50, 10)), ((0, 40, 50, 10), 100, (0, 40, 50, 10)),
                ((40, 50, 0, 10), 100, (40, 50, 0, 10)), ((3, 3, 3, 0), 50, (2, 2, 2, 1)),
                ((3, 9, 9, 0), 33, (3, 9, 9, 0)), ((3, 9, 9, 0), 34, (2, 8, 8, 1)), ((100, 100, 100, 0), 100, (0, 0, 0, 100)),
                ((50, 60, 70, 80), 100, (0, 10, 20, 100)), ((50, 60, 70, 50), 100, (0, 10, 20, 100)),
                ((50, 60, 70, 51), 100, (0, 10, 20, 100)), ((50, 60, 70, 49), 100, (0, 10, 20, 99)),
                ((0, 0, 0, 0), 100, (0, 0, 0, 0)), ((1, 1, 1, 100), 99, (1, 1, 1, 100))):
            self.same(self.pure(less_colour, tint, part), wanted, (tint, part))

    def test_random_tints(self):
        rng = random.Random(201)
        for _ in range(500):
            tint, part = tuple(rng.randint(0, 100) for _ in range(4)), rng.randint(0, 100)
            r = min(tint[0], tint[1], tint[2]) * part // 100
            wanted = tuple(number - r for number in tint[:3]) + (min(100, tint[3] + r),)
            self.same(less_colour(tint, part), wanted, (tint, part))


class TestWithinTotal(ShopCase):
    def test_some(self):
        for tint, most, wanted in (
                ((100, 100, 100, 100), 400, (100, 100, 100, 100)), ((10, 20, 30, 40), 100, (10, 20, 30, 40)),
                ((10, 20, 30, 40), 99, (10, 20, 29, 40)), ((10, 20, 30, 40), 70, (5, 10, 15, 40)),
                ((10, 20, 30, 40), 41, (0, 0, 1, 40)), ((10, 20, 30, 40), 40, (0, 0, 0, 40)),
                ((10, 20, 30, 40), 39, (0, 0, 0, 39)), ((10, 20, 30, 40), 0, (0, 0, 0, 0)),
                ((50, 50, 50, 0), 100, (34, 33, 33, 0)), ((50, 50, 50, 0), 101, (34, 34, 33, 0)),
                ((0, 0, 0, 100), 50, (0, 0, 0, 50)), ((0, 0, 0, 0), 0, (0, 0, 0, 0)),
                ((100, 0, 0, 1), 100, (99, 0, 0, 1)), ((0, 0, 1, 100), 100, (0, 0, 0, 100))):
            self.same(self.pure(within_total, tint, most), wanted, (tint, most))

    def test_random_tints(self):
        rng = random.Random(202)
        for _ in range(800):
            tint = tuple(rng.choice((0, 100, rng.randint(0, 100))) for _ in range(4))
            for most in (0, 400, rng.randint(0, 400), sum(tint), max(0, sum(tint) - 1), min(400, sum(tint) + 1), tint[3]):
                if sum(tint) <= most:
                    wanted = tint
                elif tint[3] >= most:
                    wanted = (0, 0, 0, most)
                else:
                    wanted = tuple(told_shares(most - tint[3], tint[:3])) + (tint[3],)
                self.same(within_total(tint, most), wanted, (tint, most))


class TestTintOf(ShopCase):
    def test_some(self):
        self.same(self.pure(tint_of, 0, 0, 0), (100, 100, 100, 0))
        self.same(tint_of(255, 255, 255), (0, 0, 0, 0))
        self.same(tint_of(0, 128, 255), (100, 49, 0, 0))
        self.same(tint_of(254, 253, 252), (0, 0, 1, 0))

    def test_all_lights(self):
        for light in range(256):
            number = (255 - light) * 100 // 255
            self.same(tint_of(light, 255, 0), (number, 0, 100, 0))
            self.same(tint_of(255, light, 255), (0, number, 0, 0))
            self.same(tint_of(0, 0, light), (100, 100, number, 0))


if __name__ == "__main__":
    unittest.main()
