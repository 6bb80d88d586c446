"""Part 5: strips that are folded in any way."""

import itertools
import random
import unittest

from foldandbound.errors import Crossed
from foldandbound.folding import creases
from foldandbound.orders import order_of, orders
from foldandbound.strips import by_simple, crossing, grown, is_strip, kinds_of, shown, strip_orders
from tests.support import ShopCase, full_rows, paper_folded, random_folds


def crossed_pairs(order):
    """All pairs of creases of one edge whose arcs meet, ascending."""
    found = []
    for i in range(len(order) - 1):
        for j in range(i + 1, len(order) - 1):
            if i % 2 == j % 2:
                a, b = sorted((order.index(i), order.index(i + 1)))
                c, d = sorted((order.index(j), order.index(j + 1)))
                if a < c < b < d or c < a < d < b:
                    found.append((i, j))
    return found


def told_kinds(order):
    """The kinds of the creases as the document tells them."""
    kinds = []
    for i in range(len(order) - 1):
        higher = order.index(i + 1) < order.index(i)
        kinds.append({(0, True): "valley", (1, False): "valley"}.get((i % 2, higher), "mountain"))
    return tuple(kinds)


def all_orders(n):
    return list(itertools.permutations(range(n)))


class TestStrips(ShopCase):
    """Point 5.1."""

    def test_lengths(self):
        for n in range(0, 15):
            self.same(is_strip(tuple(range(n))), 1 <= n <= 12, n)
            self.same(is_strip(tuple(range(n))[::-1]), 1 <= n <= 12, n)

    def test_each_panel_once(self):
        for n in range(1, 5):
            for value in itertools.product(range(-1, n + 1), repeat=n):
                self.same(is_strip(value), sorted(value) == list(range(n)), value)
        self.false(is_strip((1, 2, 3)))
        self.false(is_strip((0, 1, 1)))
        self.false(is_strip((0, 1, 3)))

    def test_wrong_values(self):
        self.refuses_junk(is_strip)
        self.refuses_corrupted(is_strip, (0,))
        self.refuses_corrupted(is_strip, (2, 0, 1))
        self.refuses_corrupted(is_strip, tuple(range(12)))
        for value in ((False,), (False, True), (0, True), (0.0,), ("0",), "01", [0, 1], ((0,),), ((0, 1),)):
            self.false(is_strip(value), value)

    def test_crossing(self):
        self.same(crossing((0,)), None)
        self.same(crossing((0, 1)), None)
        self.same(crossing((0, 2, 1, 3)), (0, 2))
        self.same(crossing((0, 3, 1, 2)), (0, 2))
        self.same(crossing((0, 1, 3, 2)), None)
        self.same(crossing((0, 3, 2, 1)), None)
        self.same(crossing((1, 3, 0, 2)), (0, 2))
        self.same(crossing((3, 1, 2, 0)), (0, 2))
        self.same(crossing((0, 1, 2, 3)), None)
        for n in range(1, 7):
            for order in all_orders(n):
                pairs = crossed_pairs(order)
                self.same(crossing(order), pairs[0] if pairs else None, order)

    def test_crossing_of_long_strips(self):
        rng = random.Random(51)
        for n in (7, 12):
            for _ in range(300):
                order = tuple(rng.sample(range(n), n))
                pairs = crossed_pairs(order)
                self.same(self.pure(crossing, order), pairs[0] if pairs else None, order)
        self.same(crossing(tuple(range(12))), None)


class TestStripOrders(ShopCase):
    """Points 5.2 and 5.3."""

    def test_all_orders_without_a_crossing(self):
        for n in range(1, 8):
            wanted = [order for order in all_orders(n) if not crossed_pairs(order)]
            self.same(self.pure(strip_orders, n), wanted, n)

    def test_numbers_of_orders(self):
        self.same([len(strip_orders(n)) for n in range(1, 8)], [1, 2, 6, 16, 50, 144, 462])
        self.same(strip_orders(1), [(0,)])
        self.same(strip_orders(2), [(0, 1), (1, 0)])

    def test_grown(self):
        self.same(grown((0,)), [(0, 1), (1, 0)])
        self.same(grown((0, 1)), [(0, 1, 2), (0, 2, 1), (2, 0, 1)])
        self.same(grown((0, 2, 1, 3)), [])
        for n in range(1, 6):
            longer = [order for order in all_orders(n + 1) if not crossed_pairs(order)]
            for order in all_orders(n):
                wanted = [other for other in longer if tuple(i for i in other if i != n) == order]
                self.same(self.pure(grown, order), wanted, order)

    def test_grown_orders_are_all_longer_ones(self):
        found = [longer for order in strip_orders(6) for longer in grown(order)]
        self.same(sorted(found), strip_orders(7))

    def test_strips_have_at_most_12_panels(self):
        for order in (tuple(range(12)), tuple(range(12))[::-1], tuple(range(1, 12)) + (0,)):
            self.true(is_strip(order))
            self.same(crossing(order) is None, True)
            self.same(self.pure(grown, order), [])
        for order in (tuple(range(11)), tuple(range(11))[::-1]):
            found = grown(order)
            self.true(len(found) > 1 and all(is_strip(longer) for longer in found))
            self.same(sorted(tuple(i for i in longer if i != 11) for longer in found), [order] * len(found))
        self.same(grown(tuple(range(13))), [])
        self.same(strip_orders(13), [])
        self.same(strip_orders(0), [])

    def test_kinds(self):
        self.same(kinds_of((0,)), ())
        self.same(kinds_of((0, 1)), ("mountain",))
        self.same(kinds_of((1, 0)), ("valley",))
        self.same(kinds_of((0, 1, 2)), ("mountain", "valley"))
        self.same(kinds_of((2, 1, 0)), ("valley", "mountain"))
        self.same(kinds_of((0, 2, 1)), ("mountain", "mountain"))
        self.same(kinds_of((1, 2, 0)), ("valley", "valley"))
        for n in range(1, 8):
            for order in strip_orders(n):
                self.same(kinds_of(order), told_kinds(order), order)
        self.same(self.pure(kinds_of, tuple(range(12))), ("mountain", "valley") * 5 + ("mountain",))

    def test_kinds_of_crossed_orders(self):
        self.fails(Crossed, kinds_of, (0, 2, 1, 3), first=0, second=2)
        for n in range(4, 7):
            for order in all_orders(n):
                pairs = crossed_pairs(order)
                if pairs:
                    self.fails(Crossed, kinds_of, order, first=pairs[0][0], second=pairs[0][1])

    def test_later_creases_can_be_the_first_that_cross(self):
        seconds = {crossing(order) for order in all_orders(6) if crossing(order)}
        self.assertEqual(seconds, {(0, 2), (0, 4), (1, 3), (2, 4)})

    def test_shown(self):
        for n in range(1, 6):
            for order in all_orders(n):
                for kinds in itertools.product(("valley", "mountain"), repeat=n - 1):
                    wanted = not crossed_pairs(order) and kinds == told_kinds(order)
                    self.same(shown(order, kinds), wanted, (order, kinds))
        self.true(self.pure(shown, (0, 2, 1), ("mountain", "mountain")))

    def test_creases_of_a_folded_strip(self):
        # Point 2.5 tells the same kinds, if the strip lies with the front of its first panel up.
        rng = random.Random(52)
        rows = [(n, folds) for n in range(1, 6) for folds in full_rows((1, n))]
        rows += [(n, random_folds(rng, (1, n))) for n in (6, 7, 9, 12) for _ in range(50)]
        for n, folds in rows:
            order = tuple(column for _, column in order_of((1, n), folds))
            leaf = paper_folded((1, n), folds).leaves[0, 0, 0]
            if leaf[3] != leaf[4]:
                order = order[::-1]
            kinds = tuple(crease[3] for crease in creases((1, n), folds))
            self.same(kinds_of(order), kinds, folds)
            self.true(shown(order, kinds))


class TestBySimple(ShopCase):
    """Point 5.4."""

    def test_all_small_strips(self):
        for n in range(1, 6):
            some = {tuple(column for _, column in order) for order in orders((1, n))}
            for order in all_orders(n):
                self.same(by_simple(order), order in some, order)

    def test_strips_of_six_panels(self):
        some = {tuple(column for _, column in order) for order in orders((1, 6))}
        for order in strip_orders(6):
            self.same(by_simple(order), order in some, order)
        self.assertEqual(len(some), 144)

    def test_strips_of_seven_panels(self):
        # Some orders can be folded, but not with all layers together.
        found = {order: by_simple(order) for order in strip_orders(7)}
        self.same(sorted(set(found.values())), [False, True])
        rng = random.Random(53)
        for _ in range(60):
            folds = random_folds(rng, (1, 7))
            order = tuple(column for _, column in order_of((1, 7), folds))
            self.true(self.pure(by_simple, order))
        self.assertEqual(sum(found.values()), 448)


class TestSoon(ShopCase):
    """Point 0.2: strips of 7 panels."""

    def test_strips_of_7_panels(self):
        some = strip_orders(7)
        for order in some:
            self.same(crossing(order), None)
            self.true(shown(order, kinds_of(order)))
        by_simple(some[0])
        by_simple(some[-1])
        self.same(grown(some[0]), sorted(grown(some[0])))


if __name__ == "__main__":
    unittest.main()
