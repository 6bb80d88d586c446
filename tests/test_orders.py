"""Part 4: orders of layers."""

import itertools
import random
import unittest

from foldandbound.errors import BadFold, TooMany
from foldandbound.orders import fewest_folds, folds_to, is_order, lays_for, order_of, orders
from foldandbound.reading import laying
from foldandbound.sheets import is_lay
from tests.support import ShopCase, full_rows, paper_folded, random_folds, small_sizes

OVER = ("column", 1, "low", "over")


def top_down(size, folds):
    """The order that paper shows."""
    leaves = paper_folded(size, folds).leaves
    return tuple(key[1:] for key in sorted(leaves, key=lambda key: -leaves[key][2]))


def best_rows(size):
    """From each order that folds give to the first one of the shortest full rows of folds."""
    best = {}
    for folds in full_rows(size):
        order = top_down(size, folds)
        best[order] = min(best.get(order, folds), folds, key=lambda row: (len(row), row))
    return best


class TestOrders(ShopCase):
    """Point 4.1."""

    def test_order_of(self):
        self.same(order_of((1, 2), (OVER,)), ((0, 0), (0, 1)))
        self.same(order_of((1, 2), (("column", 1, "low", "under"),)), ((0, 1), (0, 0)))
        self.same(order_of((1, 1), ()), ((0, 0),))
        self.same(order_of((2, 2), (OVER, ("row", 1, "high", "under"))), ((0, 0), (0, 1), (1, 1), (1, 0)))
        rng = random.Random(41)
        for _ in range(200):
            size = rng.choice(small_sizes(16))
            folds = random_folds(rng, size)
            self.same(self.pure(order_of, size, folds), top_down(size, folds), folds)

    def test_order_of_bad_rows(self):
        self.fails(BadFold, order_of, (1, 2), ())
        self.fails(BadFold, order_of, (1, 2), (OVER, OVER))
        self.fails(BadFold, order_of, (1, 3), (OVER,))
        self.fails(BadFold, order_of, (2, 2), (OVER,))
        self.fails(BadFold, order_of, (2, 1), (OVER,))

    def test_is_order(self):
        for size in ((1, 1), (1, 3), (3, 1), (2, 2)):
            panels = [(r, c) for r in range(size[0]) for c in range(size[1])]
            for order in itertools.permutations(panels):
                self.true(is_order(size, order), order)
                self.false(is_order(size, order[1:]), order)
                self.false(is_order(size, order + order[:1]), order)
                self.false(is_order(size, list(order)), order)
                if len(order) > 1:
                    self.false(is_order(size, order[:-1] + order[:1]), order)
                self.false(is_order(size, order[:-1] + ((size[0], 0),)), order)
                self.false(is_order(size, order[:-1] + ((0, size[1]),)), order)
                self.false(is_order(size, order[:-1] + ((-1, 0),)), order)
        self.false(is_order((1, 3), ((0, 0), (1, 0), (2, 0))))
        self.false(is_order((2, 2), ((0, 0), (0, 1), (0, 2), (0, 3))))
        self.true(is_order((8, 8), tuple((r, c) for r in range(8) for c in range(8))))

    def test_is_order_wrong_values(self):
        for size in ((1, 1), (1, 2), (2, 2)):
            self.refuses_junk(lambda value: is_order(size, value))
            order = tuple((r, c) for r in range(size[0]) for c in range(size[1]))
            self.refuses_corrupted(lambda value: is_order(size, value), order)
        for value in (((0, 0), (0, True)), ((False, 0), (0, 1)), ((0, 0), (0, 1.0)), ((0, 0), [0, 1]),
                      ((0, 0, 0), (0, 1, 0)), ((0,), (1,)), (0, 1), ("00", "01")):
            self.false(is_order((1, 2), value), value)


class TestFoldsTo(ShopCase):
    """Point 4.2."""

    def test_all_small_sheets(self):
        for size in small_sizes(5) + [(2, 3), (3, 2)]:
            best = best_rows(size)
            self.same(self.pure(orders, size), sorted(best), size)
            for order, folds in best.items():
                self.same(folds_to(size, order), folds, (size, order))
            self.same(fewest_folds(size), min(len(folds) for folds in best.values()), size)

    def test_six_panels_in_a_row(self):
        best = best_rows((1, 6))
        self.same(orders((1, 6)), sorted(best))
        for order in sorted(best)[::5]:
            self.same(folds_to((1, 6), order), best[order], order)

    def test_numbers_of_orders(self):
        self.same([len(orders((1, n))) for n in range(1, 7)], [1, 2, 6, 16, 50, 144])
        self.same([len(orders((n, 1))) for n in range(1, 7)], [1, 2, 6, 16, 50, 144])
        self.same([len(orders(size)) for size in ((2, 2), (2, 3), (3, 2))], [8, 40, 40])
        self.same(orders((1, 1)), [((0, 0),)])

    def test_orders_that_no_folds_give(self):
        self.same(folds_to((2, 2), ((0, 0), (1, 1), (0, 1), (1, 0))), None)
        self.same(folds_to((1, 4), ((0, 0), (0, 2), (0, 1), (0, 3))), None)
        self.same(self.pure(folds_to, (1, 4), ((0, 1), (0, 3), (0, 0), (0, 2))), None)
        for size in ((1, 4), (2, 2), (4, 1)):
            panels = [(r, c) for r in range(size[0]) for c in range(size[1])]
            some = orders(size)
            for order in itertools.permutations(panels):
                self.same(folds_to(size, order) is not None, order in some, order)

    def test_first_one_of_the_fewest(self):
        self.same(folds_to((1, 2), ((0, 0), (0, 1))), (("column", 1, "high", "under"),))
        self.same(folds_to((1, 2), ((0, 1), (0, 0))), (("column", 1, "high", "over"),))
        self.same(folds_to((2, 1), ((1, 0), (0, 0))), (("row", 1, "high", "over"),))
        self.same(self.pure(folds_to, (1, 1), ((0, 0),)), ())

    def test_fewest_folds(self):
        wanted = {1: 0, 2: 1, 3: 2, 4: 2, 5: 3, 6: 3}
        for size in small_sizes(6):
            self.same(fewest_folds(size), wanted[size[0]] + wanted[size[1]], size)


class TestLaysFor(ShopCase):
    """Point 4.3."""

    def test_all_lays_of_small_sheets(self):
        for size in ((1, 1), (1, 2), (2, 1), (1, 3), (2, 2), (1, 4), (2, 3)):
            sides = 2 * size[0] * size[1]
            rows = full_rows(size)
            for n in (0, 1, 2, sides - 1, sides):
                lays = self.pure(lays_for, size, n)
                self.same(lays, sorted({laying(size, folds, n) for folds in rows}), (size, n))
                for lay in lays:
                    self.true(is_lay(size, lay))

    def test_one_fold(self):
        self.same(lays_for((1, 2), 4), [
            ((((1, 0), (4, 0)),), (((3, 0), (2, 0)),)),
            ((((2, 0), (3, 0)),), (((4, 0), (1, 0)),)),
            ((((3, 0), (2, 0)),), (((1, 0), (4, 0)),)),
            ((((4, 0), (1, 0)),), (((2, 0), (3, 0)),)),
        ])
        self.same(lays_for((1, 1), 2), [((((1, 0),),), (((2, 0),),))])
        self.same(lays_for((2, 2), 0), [((((0, 0),) * 2,) * 2, (((0, 0),) * 2,) * 2)])

    def test_too_many(self):
        for size in ((1, 1), (1, 2), (2, 2), (1, 3)):
            sides = 2 * size[0] * size[1]
            lays_for(size, sides)
            for n in (sides + 1, sides + 5, 9999):
                self.fails(TooMany, lays_for, size, n)


class TestSoon(ShopCase):
    """Point 0.2: sheets of 6 panels."""

    def test_sheets_of_6_panels(self):
        for size in ((1, 6), (6, 1), (2, 3), (3, 2)):
            some = orders(size)
            self.same(folds_to(size, some[0]) is None, False)
            self.same(folds_to(size, some[-1]) is None, False)
            self.same(len(lays_for(size, 12)) > len(some), True)
            fewest_folds(size)

    def test_all_orders_of_6_panels_in_a_row(self):
        panels = [(0, c) for c in range(6)]
        given = [order for order in itertools.permutations(panels) if folds_to((1, 6), order) is not None]
        self.same(given, orders((1, 6)))

    def test_order_of_16_panels(self):
        rng = random.Random(42)
        for size in ((1, 16), (16, 1), (4, 4), (2, 8)):
            folds = random_folds(rng, size)
            self.same(order_of(size, folds), top_down(size, folds))
            self.true(is_order(size, order_of(size, folds)))


if __name__ == "__main__":
    unittest.main()
