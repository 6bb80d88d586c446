"""Points 20.2 and 20.3: grids and traps."""

import random
import unittest

from foldandbound.grids import is_grid, least_spread, moved_grid, shrunk, spread, traps
from tests.support import ShopCase


def full(rows, columns, point=1):
    return ((point,) * columns,) * rows


def random_grid(rng, rows, columns, part=0.3):
    return tuple(tuple(int(rng.random() < part) for _ in range(columns)) for _ in range(rows))


def at(grid, row, column):
    """The number of a point, which is 0 beyond the edge."""
    inside = 0 <= row < len(grid) and 0 <= column < len(grid[0])
    return grid[row][column] if inside else 0


def made(grid, point):
    """The grid of the same size of what a function gives for each row and column."""
    return tuple(tuple(int(point(r, c)) for c in range(len(grid[0]))) for r in range(len(grid)))


def near(k):
    return [(down, right) for down in range(-k, k + 1) for right in range(-k, k + 1)]


def told_spread(grid, k):
    return made(grid, lambda r, c: any(at(grid, r + down, c + right) for down, right in near(k)))


def told_shrunk(grid, k):
    return made(grid, lambda r, c: all(at(grid, r + down, c + right) for down, right in near(k)))


def told_gap(drawn_ground, drawn_figure, ground, figure, shift):
    """The first point with a gap for a shift, or None."""
    for r in range(len(ground)):
        for c in range(len(ground[0])):
            printed = at(ground, r, c) or at(figure, r - shift[0], c - shift[1])
            if (drawn_ground[r][c] or drawn_figure[r][c]) and not printed:
                return (r, c)
    return None


def told_traps(drawn_ground, drawn_figure, ground, figure, k):
    for shift in sorted(near(k), key=lambda shift: (max(abs(shift[0]), abs(shift[1])), shift)):
        point = told_gap(drawn_ground, drawn_figure, ground, figure, shift)
        if point is not None:
            return ("gap", shift, point)
    return ("closed",)


def told_least(drawn_ground, drawn_figure, ground, k):
    for s in range(k + 1):
        if told_traps(drawn_ground, drawn_figure, ground, told_spread(drawn_figure, s), k) == ("closed",):
            return s
    return None


class TestGrids(ShopCase):
    """Point 20.2."""

    def test_is_grid(self):
        for rows in (1, 2, 39, 40, 41):
            for columns in (1, 2, 39, 40, 41):
                wanted = rows <= 40 and columns <= 40
                self.same(is_grid(full(rows, columns)), wanted, (rows, columns))
                self.same(is_grid(full(rows, columns, 0)), wanted, (rows, columns))

    def test_wrong_grids(self):
        self.refuses_junk(is_grid)
        self.refuses_corrupted(is_grid, ((0, 1), (1, 0)))
        for value in ((), ((),), ((), ()), ((0, 1), (0,)), ((0,), (0, 1)), ((0, 1), (0, 1, 1)), ((2,),), ((-1,),), ((True,),),
                      ((0, False),), ((0.0,),), [(0, 1)], ([0, 1],), ((0, 1), [0, 1]), (0, 1), "01", ("01",), ((0, "1"),),
                      ((0, None),), ({0: 1},), ((0,), ())):
            self.false(is_grid(value), value)

    def test_some(self):
        grid = ((0, 0, 0, 0), (0, 1, 0, 0), (0, 0, 0, 0), (0, 0, 0, 0))
        self.same(self.pure(spread, grid, 0), grid)
        self.same(spread(grid, 1), ((1, 1, 1, 0), (1, 1, 1, 0), (1, 1, 1, 0), (0, 0, 0, 0)))
        self.same(spread(grid, 2), full(4, 4))
        self.same(spread(grid, 100), full(4, 4))
        self.same(spread(full(4, 4, 0), 100), full(4, 4, 0))
        self.same(self.pure(shrunk, full(3, 4), 1), ((0, 0, 0, 0), (0, 1, 1, 0), (0, 0, 0, 0)))
        self.same(shrunk(full(3, 4), 0), full(3, 4))
        self.same(shrunk(full(3, 4), 2), full(3, 4, 0))
        self.same(shrunk(full(5, 5), 2), made(full(5, 5), lambda r, c: (r, c) == (2, 2)))
        self.same(shrunk(full(40, 40), 100), full(40, 40, 0))
        self.same(self.pure(moved_grid, grid, 1, 2), ((0, 0, 0, 0), (0, 0, 0, 0), (0, 0, 0, 1), (0, 0, 0, 0)))
        self.same(moved_grid(grid, -1, -1), ((1, 0, 0, 0), (0, 0, 0, 0), (0, 0, 0, 0), (0, 0, 0, 0)))
        self.same(moved_grid(grid, -2, 0), full(4, 4, 0))
        self.same(moved_grid(grid, 0, 3), full(4, 4, 0))
        self.same(moved_grid(grid, 0, -2), full(4, 4, 0))
        self.same(moved_grid(grid, 3, 0), full(4, 4, 0))
        self.same(moved_grid(grid, 0, 0), grid)
        self.same(moved_grid(((1, 1),), 10 ** 20, -10 ** 20), ((0, 0),))

    def test_random_grids(self):
        rng = random.Random(203)
        for _ in range(300):
            rows, columns = rng.randint(1, 6), rng.randint(1, 6)
            grid = random_grid(rng, rows, columns, rng.choice((0.1, 0.3, 0.8, 0.95)))
            for k in (0, 1, 2, 3, 7):
                self.same(self.pure(spread, grid, k), told_spread(grid, k), (grid, k))
                self.same(self.pure(shrunk, grid, k), told_shrunk(grid, k), (grid, k))
            down, right = rng.randint(-7, 7), rng.randint(-7, 7)
            wanted = made(grid, lambda r, c: at(grid, r - down, c - right))
            self.same(self.pure(moved_grid, grid, down, right), wanted, (grid, down, right))


class TestTraps(ShopCase):
    """Point 20.3."""

    GROUND = ((1, 1, 1, 0, 0, 0),)
    FIGURE = ((0, 0, 0, 1, 1, 1),)

    def test_some(self):
        # Nothing overlaps: no shift at all is closed, but each shift by one leaves a gap.
        plain = (self.GROUND, self.FIGURE, self.GROUND, self.FIGURE)
        self.same(self.pure(traps, *plain, 0), ("closed",))
        self.same(traps(*plain, 1), ("gap", (-1, -1), (0, 3)))
        # A gap without any shift.
        self.same(traps(full(2, 2), full(2, 2, 0), full(2, 2, 0), full(2, 2, 0), 0), ("gap", (0, 0), (0, 0)))
        self.same(traps(((0, 0), (0, 1)), full(2, 2, 0), full(2, 2, 0), full(2, 2, 0), 5), ("gap", (0, 0), (1, 1)))
        self.same(traps(full(2, 2, 0), ((0, 0), (1, 1)), full(2, 2, 0), full(2, 2, 0), 5), ("gap", (0, 0), (1, 0)))
        # Nothing was drawn.
        self.same(traps(full(2, 2, 0), full(2, 2, 0), full(2, 2, 0), full(2, 2), 9), ("closed",))
        # The ground's plate covers all.
        self.same(traps(full(2, 2), full(2, 2), full(2, 2), full(2, 2, 0), 9), ("closed",))

    def test_closed_at_the_bound_and_a_gap_beyond_it(self):
        for wide in (1, 2, 3):
            ground = (tuple(int(c < 8) for c in range(20)),) * 20
            drawn = made(full(20, 20), lambda r, c: 8 <= c < 12 and 8 <= r < 12)
            cut = made(full(20, 20), lambda r, c: ground[r][c] or not (8 <= r < 12 and 8 <= c < 12))
            for k in range(0, 5):
                paper = traps(cut, drawn, cut, spread(drawn, wide), k)
                if k <= wide:
                    self.same(paper, ("closed",), (wide, k))
                else:
                    self.same(paper, ("gap", (-wide - 1, -wide - 1), (8, 11)), (wide, k))

    def test_the_first_shift_of_equally_great_ones(self):
        # The figure is wide in all directions but one: only a shift to that side leaves a gap.
        middle = made(full(7, 7), lambda r, c: (r, c) == (3, 3))
        for down in (-2, -1, 0, 1, 2):
            for right in (-2, -1, 0, 1, 2):
                # The plate lacks just the point that this shift brings to the middle.
                figure = made(full(7, 7), lambda r, c: (r, c) != (3 - down, 3 - right))
                self.same(traps(full(7, 7, 0), middle, full(7, 7, 0), figure, 2), ("gap", (down, right), (3, 3)))
                size = max(abs(down), abs(right))
                if size > 0:
                    self.same(traps(full(7, 7, 0), middle, full(7, 7, 0), figure, size - 1), ("closed",))
        lacking = made(full(7, 7), lambda r, c: (r, c) not in ((2, 3), (4, 4), (3, 2), (5, 5)))
        self.same(traps(full(7, 7, 0), middle, full(7, 7, 0), lacking, 2), ("gap", (-1, -1), (3, 3)))
        lacking = made(full(7, 7), lambda r, c: (r, c) not in ((2, 3), (3, 2), (5, 5)))
        self.same(traps(full(7, 7, 0), middle, full(7, 7, 0), lacking, 2), ("gap", (0, 1), (3, 3)))

    def test_points_at_the_edge(self):
        # What leaves the grid is lost, and nothing comes in from beyond.
        self.same(traps(full(3, 3, 0), full(3, 3), full(3, 3, 0), full(3, 3), 1), ("gap", (-1, -1), (0, 2)))
        corner = ((0, 0), (0, 1))
        self.same(traps(full(2, 2, 0), corner, full(2, 2, 0), full(2, 2), 1), ("gap", (-1, -1), (1, 1)))
        self.same(traps(full(2, 2, 0), corner[::-1], full(2, 2, 0), full(2, 2), 1), ("gap", (-1, -1), (0, 1)))
        left = ((1, 0), (0, 0))
        self.same(traps(full(2, 2, 0), left, full(2, 2, 0), full(2, 2), 1), ("gap", (-1, 1), (0, 0)))

    def test_random_traps(self):
        rng = random.Random(204)
        words = {"closed": 0, "gap": 0}
        for _ in range(400):
            rows, columns = rng.randint(1, 5), rng.randint(1, 5)
            drawn_ground, drawn_figure = random_grid(rng, rows, columns), random_grid(rng, rows, columns, 0.2)
            ground = random_grid(rng, rows, columns, 0.7)
            ground = made(ground, lambda r, c: ground[r][c] or drawn_ground[r][c] and rng.random() < 0.95)
            figure = rng.choice((drawn_figure, spread(drawn_figure, 1), spread(drawn_figure, 2)))
            for k in (0, 1, 2, 3, 6, 8):
                arguments = (drawn_ground, drawn_figure, ground, figure, k)
                paper = self.pure(traps, *arguments)
                self.same(paper, told_traps(*arguments), arguments)
                words[paper[0]] += 1
        self.assertGreater(min(words.values()), 300)

    def test_sizes_end_soon(self):
        rng = random.Random(205)
        for k in range(4):
            grids = [random_grid(rng, 12, 12, 0.5) for _ in range(4)]
            self.same(traps(*grids, k), told_traps(*grids, k))
            drawn = made(full(12, 12), lambda r, c: 4 <= r < 8 and 4 <= c < 8)
            rest = made(full(12, 12), lambda r, c: not drawn[r][c])
            self.same(least_spread(rest, drawn, rest, k), k)
        traps(full(40, 40, 0), full(40, 40, 0), full(40, 40, 0), full(40, 40, 0), 4)


class TestLeastSpread(ShopCase):
    """Point 20.3."""

    def test_some(self):
        ground = ((1, 1, 1, 1, 0, 0, 1, 1, 1, 1),)
        figure = ((0, 0, 0, 0, 1, 1, 0, 0, 0, 0),)
        tall_ground, tall_figure = ground * 9, figure * 9
        for k in range(4):
            # One row only: a shift downwards takes all of the figure away.
            self.same(self.pure(least_spread, ground, figure, ground, k), 0 if k == 0 else None)
        # The figure reaches the edge: what comes from beyond it is white.
        self.same(least_spread(tall_ground, tall_figure, tall_ground, 1), None)
        middle = made(tall_ground, lambda r, c: 3 <= r < 6 and tall_figure[r][c])
        around = made(tall_ground, lambda r, c: not middle[r][c])
        for k in range(4):
            self.same(least_spread(around, middle, around, k), k)
        # The ground's plate goes some way below the figure.
        for inside in (1, 2):
            below = made(around, lambda r, c: 1 - shrunk(middle, inside)[r][c])
            for k in range(4):
                self.same(least_spread(around, middle, below, k), told_least(around, middle, below, k), (inside, k))
        self.same(least_spread(full(2, 2, 0), full(2, 2, 0), full(2, 2, 0), 3), 0)
        self.same(least_spread(full(2, 2), full(2, 2, 0), full(2, 2, 0), 3), None)
        # More than k would close all, but it must not be more.
        hole = made(full(9, 9), lambda r, c: (r, c) != (4, 6))
        dot = made(full(9, 9), lambda r, c: (r, c) == (4, 4))
        self.same(least_spread(full(9, 9), dot, hole, 1), None)
        self.same(least_spread(full(9, 9), dot, made(full(9, 9), lambda r, c: (r, c) != (4, 5)), 1), None)
        self.same(least_spread(full(9, 9), dot, full(9, 9), 1), 0)

    def test_random_grids(self):
        rng = random.Random(206)
        found = []
        for _ in range(300):
            rows, columns = rng.randint(3, 7), rng.randint(3, 7)
            dots = random_grid(rng, rows, columns, 0.05)
            figure = spread(dots, rng.choice((0, 0, 1)))
            ground = made(figure, lambda r, c: not shrunk(figure, rng.choice((0, 0, 1)))[r][c] or rng.random() < 0.6)
            drawn = made(figure, lambda r, c: ground[r][c] and rng.random() < 0.9)
            for k in (0, 1, 2, 3, 9):
                arguments = (drawn, figure, ground, k)
                wanted = told_least(*arguments)
                self.same(self.pure(least_spread, *arguments), wanted, arguments)
                found.append(wanted)
        self.assertTrue({0, 1, None} <= set(found))


if __name__ == "__main__":
    unittest.main()
