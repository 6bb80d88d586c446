"""Part 18: shares, prices and offers."""

import fractions
import itertools
import random
import unittest

from foldandbound.costs import cheapest, price, shares
from foldandbound.errors import NoWeights
from tests.support import ShopCase

BANDS = ((0, 9), (10, 7), (50, 7), (100, 2))


def told_shares(total, weights):
    """The shares with exact fractions: cent by cent to the one that lacks most of a cent."""
    if sum(weights) == 0:
        return [total] + [0] * (len(weights) - 1)
    exact = [fractions.Fraction(total * weight, sum(weights)) for weight in weights]
    found = [int(share) for share in exact]
    got = [False] * len(weights)
    while sum(found) < total:
        lacks = [(share - int(share), -k) for k, share in enumerate(exact) if not got[k]]
        k = -max(lacks)[1]
        found[k] += 1
        got[k] = True
    return found


def told_price(bands, copies):
    for number, cents in sorted(bands, reverse=True):
        if copies >= number:
            return copies * cents


def told_cheapest(offers, copies):
    """The best numbers, by the best row for each sum of copies, offer by offer from the first one."""
    best = {0: (0, ())}
    for bands in offers:
        prices = [told_price(bands, number) for number in range(201)]
        found = {}
        for total, (cents, row) in best.items():
            for number in range(201):
                other = (cents + prices[number], row + (number,))
                if total + number not in found or other < found[total + number]:
                    found[total + number] = other
        best = found
    cents, total, row = min((cents, total, row) for total, (cents, row) in best.items() if total >= copies)
    return row


def random_bands(rng, dearest=9):
    numbers = [0] + sorted(rng.sample(range(1, 201), rng.randint(0, 4)))
    return tuple((number, rng.randint(0, dearest)) for number in numbers)


class TestShares(ShopCase):
    """Point 18.1."""

    def test_some(self):
        self.same(shares(100, [1, 1, 1]), [34, 33, 33])
        self.same(shares(101, [1, 1, 1]), [34, 34, 33])
        self.same(shares(99, [1, 1, 1]), [33, 33, 33])
        self.same(shares(0, [1, 2, 3]), [0, 0, 0])
        self.same(shares(10, [1]), [10])
        self.same(shares(1, [1, 2]), [0, 1])
        self.same(shares(5, [1, 1, 2]), [1, 1, 3])
        # Equal remainders: the earlier ones.
        self.same(shares(1, [1, 1]), [1, 0])
        self.same(shares(2, [1, 1, 1, 1]), [1, 1, 0, 0])
        self.same(shares(5, [2, 0, 2, 0]), [3, 0, 2, 0])
        self.same(shares(7, [0, 3, 1]), [0, 5, 2])

    def test_weights_that_are_all_0(self):
        self.same(shares(10, [0]), [10])
        self.same(shares(10, [0, 0, 0]), [10, 0, 0])
        self.same(shares(0, [0, 0]), [0, 0])

    def test_no_weights(self):
        for total in (0, 1, 10 ** 20):
            self.fails(NoWeights, shares, total, [])

    def test_all_small_weights(self):
        for many in (1, 2, 3):
            for weights in itertools.product(range(5), repeat=many):
                for total in range(0, 9):
                    self.same(shares(total, list(weights)), told_shares(total, weights), (total, weights))

    def test_random_weights(self):
        rng = random.Random(181)
        for _ in range(300):
            most = rng.choice((1, 3, 30, 10 ** 25))
            weights = [rng.randint(0, most) for _ in range(rng.randint(1, 9))]
            total = rng.choice((rng.randint(0, 50), rng.randint(0, 10 ** 25)))
            found = self.pure(shares, total, weights)
            self.same(found, told_shares(total, weights), (total, weights))
            self.same(sum(found), total)


class TestPrice(ShopCase):
    """Point 18.2, the first half."""

    def test_steps_of_the_bands(self):
        for copies, cents in ((0, 9), (1, 9), (9, 9), (10, 7), (11, 7), (49, 7), (50, 7), (99, 7), (100, 2), (101, 2),
                              (10 ** 20, 2)):
            self.same(self.pure(price, BANDS, copies), copies * cents, copies)

    def test_one_pair(self):
        for copies in (0, 1, 7, 200):
            self.same(price(((0, 5),), copies), 5 * copies)
            self.same(price(((0, 0),), copies), 0)

    def test_random_bands(self):
        rng = random.Random(182)
        for _ in range(50):
            bands = random_bands(rng)
            for copies in range(0, 205, 3):
                self.same(price(bands, copies), told_price(bands, copies))
            for number, _ in bands:
                for copies in (number - 1, number, number + 1):
                    if copies >= 0:
                        self.same(price(bands, copies), told_price(bands, copies))


class TestCheapest(ShopCase):
    """Point 18.2, the second half."""

    def test_one_offer(self):
        self.same(cheapest((((0, 5),),), 7), (7,))
        self.same(cheapest((((0, 5),),), 0), (0,))
        self.same(cheapest((((0, 5),),), 200), (200,))
        self.same(cheapest((((0, 0),),), 7), (7,))
        # More copies can be cheaper.
        self.same(cheapest((BANDS,), 29), (100,))
        self.same(cheapest((BANDS,), 28), (28,))
        self.same(cheapest((BANDS,), 9), (10,))
        self.same(cheapest((BANDS,), 7), (7,))
        self.same(cheapest((((0, 9), (100, 0)),), 1), (100,))
        self.same(cheapest((((0, 9), (201, 0)),), 1), (1,))
        self.same(cheapest((((0, 9), (200, 0)),), 1), (200,))

    def test_several_offers(self):
        self.same(cheapest((((0, 5),), ((0, 4),)), 7), (0, 7))
        self.same(cheapest((((0, 4),), ((0, 5),)), 7), (7, 0))
        # Equal prices and sums: the first one in the order of Python.
        self.same(cheapest((((0, 4),), ((0, 4),)), 7), (0, 7))
        self.same(cheapest((((0, 4),), ((0, 4),), ((0, 4),)), 200), (0, 0, 200))
        self.same(cheapest((((0, 4), (5, 2)), ((0, 4), (3, 2))), 8), (0, 8))
        self.same(cheapest((((0, 9), (5, 2), (6, 9)), ((0, 9), (3, 2), (4, 9))), 8), (5, 3))
        # The least price goes before the least sum, and this before the first numbers.
        self.same(cheapest((((0, 9), (10, 1)), ((0, 2),)), 6), (10, 0))
        self.same(cheapest((((0, 9), (10, 1)), ((0, 2),)), 5), (0, 5))
        self.same(cheapest((((0, 5), (10, 1)), ((0, 2),)), 4), (0, 4))
        self.same(cheapest((((0, 0), (3, 1)), ((0, 0), (4, 1)), ((0, 3),)), 5), (2, 3, 0))
        self.same(cheapest((((0, 3),),) * 6, 0), (0, 0, 0, 0, 0, 0))

    def test_all_numbers_of_two_offers(self):
        rng = random.Random(183)
        for _ in range(12):
            offers = (random_bands(rng), random_bands(rng))
            copies = rng.randint(0, 200)
            prices = [[told_price(bands, number) for number in range(201)] for bands in offers]
            wanted = min((prices[0][a] + prices[1][b], a + b, (a, b))
                         for a, b in itertools.product(range(201), repeat=2) if a + b >= copies)[2]
            self.same(self.pure(cheapest, offers, copies), wanted, (offers, copies))

    def test_random_offers(self):
        rng = random.Random(184)
        for many in (1, 2, 2, 3, 3, 4):
            for _ in range(3):
                offers = tuple(random_bands(rng, rng.choice((1, 3, 9))) for _ in range(many))
                copies = rng.choice((0, 1, rng.randint(0, 200), 199, 200))
                self.same(self.pure(cheapest, offers, copies), told_cheapest(offers, copies), (offers, copies))

    def test_six_offers(self):
        offers = (((0, 3),), ((0, 9), (10, 2)), ((0, 9), (20, 2)), ((0, 9), (30, 2)), ((0, 9), (40, 1)), ((0, 4),))
        self.same(cheapest(offers, 12), (0, 12, 0, 0, 0, 0))
        self.same(cheapest(offers, 200), (0, 0, 0, 0, 200, 0))
        self.same(cheapest(offers, 5), (5, 0, 0, 0, 0, 0))
        self.same(cheapest(offers, 7), (0, 10, 0, 0, 0, 0))
        # 40 cents also for 40 copies, and for 20 of the second offer.
        self.same(cheapest(offers, 20), (0, 0, 20, 0, 0, 0))
        self.same(cheapest(offers, 21), (0, 0, 0, 0, 40, 0))


if __name__ == "__main__":
    unittest.main()
