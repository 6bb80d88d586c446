"""Part 11: most from a sheet."""

import functools
import itertools
import random
import unittest

from foldandbound.layouts import check_cutting, is_layout, pieces_from
from foldandbound.tables import best_plan, check_plan, check_table, most_pieces, sheets_for, value_table
from tests.support import JUNK, ShopCase, corrupted

WASTE = ("waste",)
KINDS = ((2, 3, 5), (1, 2, 2), (4, 1, 3))


def leaves_of(kinds, turning, size):
    """The kinds that are exactly so large, as `("kind", k, turns)`."""
    width, height = size
    found = []
    for k, kind in enumerate(kinds):
        if (kind[0], kind[1]) == (width, height):
            found.append(("kind", k, 0))
        if turning and (kind[1], kind[0]) == (width, height):
            found.append(("kind", k, 1))
    return found


def all_cuts(size):
    """All cuts of a part, each with the sizes of both parts."""
    width, height = size
    return [("x", at, (at, height), (width - at, height)) for at in range(1, width)] + [
        ("y", at, (width, at), (width, height - at)) for at in range(1, height)]


def told_table(kinds, turning, board):
    """The closed table, from the greatest value of each part over all of its plans."""
    @functools.lru_cache(maxsize=None)
    def best(size):
        values = [0] + [kinds[leaf[1]][2] for leaf in leaves_of(kinds, turning, size)]
        values += [best(low) + best(high) for _, _, low, high in all_cuts(size)]
        return max(values)
    return tuple(tuple(best((i, j)) for i in range(1, board[0] + 1)) for j in range(1, board[1] + 1))


def plan_value(kinds, turning, size, plan):
    """The value of a plan of the right form, or None if it is no plan for the part."""
    if plan == WASTE:
        return 0
    if plan[0] == "kind":
        return kinds[plan[1]][2] if plan in leaves_of(kinds, turning, size) else None
    for axis, at, low, high in all_cuts(size):
        if (axis, at) == plan[1:3]:
            values = [plan_value(kinds, turning, low, plan[3]), plan_value(kinds, turning, high, plan[4])]
            return None if None in values else sum(values)
    return None


def changed_plans(rng, plan, many):
    """Plans of the right form with one node changed."""
    if plan[0] == "cut":
        _, axis, at, low, high = plan
        yield from [("cut", "y" if axis == "x" else "x", at, low, high), ("cut", axis, at, high, low), WASTE]
        yield from [("cut", axis, at + 1, low, high), ("cut", axis, at - 1, low, high)]
        for other in changed_plans(rng, low, many):
            yield ("cut", axis, at, other, high)
        for other in changed_plans(rng, high, many):
            yield ("cut", axis, at, low, other)
    else:
        yield WASTE
        yield ("kind", rng.randint(0, many - 1), rng.randint(0, 1))
        if plan[0] == "kind":
            yield ("kind", plan[1], 1 - plan[2])
        yield ("cut", rng.choice("xy"), rng.randint(0, 5), plan, WASTE)


def random_kinds(rng, most_side=4, most=4, least=1):
    return tuple((rng.randint(1, most_side), rng.randint(1, most_side), rng.randint(1, 9))
                 for _ in range(rng.randint(least, most)))


def counts_from(kinds, turning, board, numbers):
    """All tuples of counts of kinds, none greater than the numbers, that a plan for the board has or exceeds."""
    zero = (0,) * len(kinds)

    @functools.lru_cache(maxsize=None)
    def counts(size):
        found = {zero}
        for _, k, _ in leaves_of(kinds, turning, size):
            found.add(tuple(min(1, numbers[k]) if at == k else 0 for at in range(len(kinds))))
        for _, _, low, high in all_cuts(size):
            for one in counts(low):
                for other in counts(high):
                    found.add(tuple(min(a + b, n) for a, b, n in zip(one, other, numbers)))
        return frozenset(found)

    return counts(board)


def told_sheets(kinds, turning, board, numbers):
    """The fewest boards: board by board, all counts that can be had together."""
    for k, number in enumerate(numbers):
        if number > 0 and not any(leaves_of(kinds[k:k + 1], turning, size) for size in itertools.product(
                range(1, board[0] + 1), range(1, board[1] + 1))):
            return None
    from_one = counts_from(kinds, turning, board, numbers)
    reached = {(0,) * len(kinds)}
    boards = 0
    while tuple(numbers) not in reached:
        pairs = itertools.product(reached, from_one)
        reached = {tuple(min(a + b, n) for a, b, n in zip(one, other, numbers)) for one, other in pairs}
        boards += 1
    return boards


def laid_plan(plan, part, pieces):
    """A plan as a cut tree in the sense of point 10.2; its kinds go to the list of the pieces."""
    left, top, width, height = part
    if plan[0] == "cut":
        _, axis, at, low, high = plan
        if axis == "x":
            parts = [(left, top, at, height), (left + at, top, width - at, height)]
        else:
            parts = [(left, top, width, at), (left, top + at, width, height - at)]
        line = (left if axis == "x" else top) + at
        return ("cut", axis, line, laid_plan(low, parts[0], pieces), laid_plan(high, parts[1], pieces))
    if plan[0] == "kind":
        pieces.append(part)
        return ("piece", len(pieces) - 1)
    return WASTE


class TestPlans(ShopCase):
    """Point 11.1."""

    def test_leaves(self):
        for turning in (False, True):
            for size in itertools.product(range(1, 5), repeat=2):
                self.true(check_plan(KINDS, turning, size, WASTE))
                for k, turns in itertools.product(range(-1, 5), (-1, 0, 1, 2)):
                    wanted = ("kind", k, turns) in leaves_of(KINDS, turning, size)
                    self.same(check_plan(KINDS, turning, size, ("kind", k, turns)), wanted, (turning, size, k, turns))

    def test_square_kinds_can_be_turned(self):
        self.true(check_plan(((2, 2, 1),), True, (2, 2), ("kind", 0, 1)))
        self.false(check_plan(((2, 2, 1),), False, (2, 2), ("kind", 0, 1)))

    def test_cuts_at_the_edges(self):
        for axis, length in (("x", 5), ("y", 3)):
            for at in range(-2, 8):
                plan = ("cut", axis, at, WASTE, WASTE)
                self.same(check_plan(KINDS, False, (5, 3), plan), 0 < at < length, plan)
        # The place of a line is counted from the edge of its own part.
        for at in range(0, 6):
            plan = ("cut", "x", 3, WASTE, ("cut", "x", at, WASTE, WASTE))
            self.same(check_plan(KINDS, False, (5, 3), plan), at == 1, plan)
            plan = ("cut", "y", 1, WASTE, ("cut", "y", at, WASTE, WASTE))
            self.same(check_plan(KINDS, False, (5, 3), plan), at == 1, plan)
            plan = ("cut", "x", 3, ("cut", "x", at, WASTE, WASTE), ("cut", "y", 1, WASTE, WASTE))
            self.same(check_plan(KINDS, False, (5, 3), plan), at in (1, 2), plan)

    def test_both_parts_are_checked(self):
        good, bad = ("kind", 0, 0), ("kind", 1, 0)
        for low, high in itertools.product((good, bad), repeat=2):
            self.same(check_plan(KINDS, False, (4, 3), ("cut", "x", 2, low, high)), low == high == good)

    def test_a_plan_may_have_any_value(self):
        self.true(check_plan(KINDS, True, (4, 4), WASTE))
        self.true(check_plan(KINDS, True, (4, 4), ("cut", "x", 1, WASTE, WASTE)))
        self.true(check_plan((), True, (4, 4), ("cut", "x", 1, WASTE, WASTE)))

    def test_changed_plans(self):
        rng = random.Random(111)
        found = {True: 0, False: 0}
        for _ in range(80):
            kinds, turning = random_kinds(rng), rng.random() < 0.5
            board = (rng.randint(1, 6), rng.randint(1, 6))
            for plan in changed_plans(rng, best_plan(kinds, turning, board), len(kinds)):
                wanted = plan_value(kinds, turning, board, plan) is not None
                found[wanted] += 1
                self.same(check_plan(kinds, turning, board, plan), wanted, (kinds, turning, board, plan))
        self.assertGreater(min(found.values()), 100)

    def test_wrong_values(self):
        plan = ("cut", "x", 2, ("kind", 0, 0), ("cut", "y", 1, ("kind", 1, 1), WASTE))
        board = (4, 3)
        self.true(check_plan(KINDS, True, board, plan))
        for value in corrupted(plan):
            self.false(check_plan(KINDS, True, board, value), value)
        self.refuses_junk(lambda value: check_plan(KINDS, True, board, value))
        self.refuses_junk(lambda value: check_plan(KINDS, True, (4, 1), ("kind", 2, value)), 0)
        self.refuses_junk(lambda value: check_plan(KINDS, True, (4, 1), ("kind", value, 0)), 2)
        self.refuses_junk(lambda value: check_plan(KINDS, True, (2, 1), ("cut", "x", value, WASTE, WASTE)), 1)
        self.refuses_junk(lambda value: check_plan(KINDS, True, (2, 1), ("cut", value, 1, WASTE, WASTE)))
        self.refuses_junk(lambda value: check_plan(KINDS, True, (2, 1), ("cut", "x", 1, value, WASTE)))
        self.refuses_junk(lambda value: check_plan(KINDS, True, (2, 1), ("cut", "x", 1, WASTE, value)))
        for value in (("waste", 0), ("kind", 0), ("kind", 0, 0, 0), ("kind", 2, False), ("cut", "x", 1, WASTE),
                      ("cut", "x", 1, WASTE, WASTE, WASTE), "waste", ["waste"], ("Waste",), ("piece", 0)):
            self.false(check_plan(KINDS, True, (4, 1), value), value)


class TestTables(ShopCase):
    """Point 11.2."""

    def test_some(self):
        self.same(value_table(((1, 1, 3),), False, (2, 2)), ((3, 6), (6, 12)))
        self.same(value_table(((2, 1, 3),), False, (3, 2)), ((0, 3, 3), (0, 6, 6)))
        self.same(value_table(((2, 1, 3),), True, (3, 2)), ((0, 3, 3), (3, 6, 9)))
        # The row of a number is the height of its part, and the column its width.
        self.same(value_table(((3, 1, 7),), False, (4, 2)), ((0, 0, 7, 7), (0, 0, 14, 14)))
        self.same(value_table(((1, 1, 1), (1, 1, 4), (1, 1, 2)), False, (1, 1)), ((4,),))
        self.same(value_table(((1, 1, 1), (2, 2, 3)), False, (2, 2)), ((1, 2), (2, 4)))
        self.same(value_table(((1, 1, 1), (2, 2, 5)), False, (2, 2)), ((1, 2), (2, 5)))

    def test_numbers_of_kinds(self):
        self.same(value_table((), True, (2, 3)), ((0, 0),) * 3)
        for many in (1, 6, 7):
            kinds = tuple((1 + k % 3, 1 + k % 2, 1 + 3 * k) for k in range(many))
            for turning in (False, True):
                self.same(value_table(kinds, turning, (5, 4)), told_table(kinds, turning, (5, 4)))

    def test_kinds_of_1_and_100(self):
        self.same(value_table(((100, 100, 1000),), True, (99, 2)), ((0,) * 99,) * 2)
        table = value_table(((100, 1, 1000), (1, 100, 999)), False, (101, 1))
        self.same(table, ((0,) * 99 + (1000, 1000),))
        table = value_table(((1, 100, 1000),), True, (101, 1))
        self.same(table, ((0,) * 99 + (1000, 1000),))

    def test_random_tables(self):
        rng = random.Random(112)
        for _ in range(120):
            kinds, turning = random_kinds(rng), rng.random() < 0.5
            board = (rng.randint(1, 9), rng.randint(1, 9))
            wanted = told_table(kinds, turning, board)
            self.same(self.pure(value_table, kinds, turning, board), wanted, (kinds, turning, board))
            self.true(self.pure(check_table, kinds, turning, board, wanted))
            # With and without turning are two tables only where it matters.
            self.same(check_table(kinds, not turning, board, wanted), told_table(kinds, not turning, board) == wanted)

    def test_tables_with_one_number_changed(self):
        rng = random.Random(113)
        for kinds in (KINDS, ((1, 1, 1),), ((9, 9, 1),)):
            for turning in (False, True):
                table = told_table(kinds, turning, (4, 3))
                for j, i in itertools.product(range(3), range(4)):
                    for other in (table[j][i] + 1, table[j][i] - 1, -1, 1000, rng.randint(0, 50)):
                        row = table[j][:i] + (other,) + table[j][i + 1:]
                        value = table[:j] + (row,) + table[j + 1:]
                        self.same(check_table(kinds, turning, (4, 3), value), value == table, value)

    def test_tables_of_another_size(self):
        table = told_table(KINDS, True, (4, 3))
        for board in itertools.product(range(1, 6), repeat=2):
            self.same(check_table(KINDS, True, board, table), board == (4, 3), board)
        for value in (table[:2], table + table[2:], table[1:], (), tuple(row[:3] for row in table),
                      tuple(row + (99,) for row in table), (table[0][:3],) + table[1:], table[:2] + (table[2] + (9,),)):
            self.false(check_table(KINDS, True, (4, 3), value), value)

    def test_too_great_numbers_that_agree(self):
        # Each number would be right if the first ones were.
        self.false(check_table(((1, 1, 1),), False, (3, 1), ((2, 4, 6),)))
        self.false(check_table((), False, (3, 1), ((1, 2, 3),)))
        self.true(check_table((), False, (3, 1), ((0, 0, 0),)))

    def test_wrong_values(self):
        table = told_table(KINDS, True, (2, 3))
        for value in corrupted(table):
            self.false(check_table(KINDS, True, (2, 3), value), value)
        self.refuses_junk(lambda value: check_table(KINDS, True, (2, 3), value))
        self.refuses_junk(lambda value: check_table(((1, 1, 1),), True, (1, 1), ((value,),)), 1)
        self.refuses_junk(lambda value: check_table(KINDS, True, (1, 1), ((value,),)), 0)
        self.refuses_junk(lambda value: check_table(KINDS, True, (1, 1), (value,)))
        for value in (((False,),), ((0.0,),), [[0]], [(0,)], ([0],), "0", ((0,), (0,)), ((0, 0),)):
            self.false(check_table(KINDS, True, (1, 1), value), value)


class TestBestPlan(ShopCase):
    """Points 11.1 and 11.2."""

    def test_some(self):
        self.same(best_plan(((3, 2, 5),), False, (3, 2)), ("kind", 0, 0))
        self.same(best_plan(((2, 3, 5),), True, (3, 2)), ("kind", 0, 1))
        self.same(best_plan(((2, 3, 5),), False, (3, 2)), WASTE)
        self.same(best_plan((), True, (3, 2)), WASTE)
        self.same(best_plan(((1, 1, 5), (1, 1, 7)), True, (1, 1))[:2], ("kind", 1))

    def test_random_plans(self):
        rng = random.Random(114)
        for _ in range(150):
            kinds, turning = random_kinds(rng), rng.random() < 0.5
            board = (rng.randint(1, 9), rng.randint(1, 9))
            plan = self.pure(best_plan, kinds, turning, board)
            wanted = told_table(kinds, turning, board)[-1][-1]
            self.same(plan_value(kinds, turning, board, plan), wanted, (kinds, board))
            self.true(self.pure(check_plan, kinds, turning, board, plan))

    def test_plans_are_cuttings_of_layouts(self):
        rng = random.Random(115)
        some = 0
        for _ in range(60):
            kinds, turning = random_kinds(rng, 4, 4), rng.random() < 0.5
            board = (rng.randint(1, 7), rng.randint(1, 7))
            pieces = []
            tree = laid_plan(best_plan(kinds, turning, board), (0, 0) + board, pieces)
            layout = (board, tuple(pieces))
            if len(pieces) <= 30:
                some += len(pieces) > 1
                self.true(is_layout(layout), layout)
                self.true(check_cutting(layout, ("cuts", tree)), (layout, tree))
                self.same(pieces_from(board, tree), list(enumerate(pieces)))
        self.assertGreater(some, 30)


class TestMostPieces(ShopCase):
    """Point 11.3, the first half."""

    def test_some(self):
        self.same(most_pieces(2, 3, True, (5, 5)), 3)
        self.same(most_pieces(2, 3, False, (5, 5)), 2)
        self.same(most_pieces(5, 5, False, (5, 5)), 1)
        self.same(most_pieces(5, 6, True, (5, 5)), 0)
        self.same(most_pieces(1, 1, False, (6, 7)), 42)
        self.same(most_pieces(6, 1, False, (5, 6)), 0)
        self.same(most_pieces(6, 1, True, (5, 6)), 5)

    def test_against_all_plans(self):
        for width, height, turning in itertools.product((1, 2, 3), (1, 2, 4), (False, True)):
            for board in ((5, 4), (7, 6), (3, 3)):
                wanted = told_table(((width, height, 1),), turning, board)[-1][-1]
                self.same(self.pure(most_pieces, width, height, turning, board), wanted)


class TestSheetsFor(ShopCase):
    """Point 11.3, the second half."""

    def test_some(self):
        kinds = ((2, 2, 1), (3, 1, 1))
        self.same(sheets_for(kinds, False, (3, 3), (0, 0)), 0)
        self.same(sheets_for(kinds, False, (3, 3), (1, 0)), 1)
        self.same(sheets_for(kinds, False, (3, 3), (2, 0)), 2)
        self.same(sheets_for(kinds, False, (3, 3), (1, 1)), 1)
        self.same(sheets_for(kinds, False, (3, 3), (1, 2)), 2)
        self.same(sheets_for(kinds, False, (3, 3), (0, 6)), 2)
        self.same(sheets_for(((1, 1, 1),), False, (2, 3), (6,)), 1)
        self.same(sheets_for(((1, 1, 1),), False, (1, 1), (6,)), 6)

    def test_the_values_do_not_count(self):
        for value in (1, 1000):
            self.same(sheets_for(((3, 3, 1), (2, 1, value)), False, (3, 3), (1, 1)), 2)

    def test_kinds_that_do_not_fit(self):
        kinds = ((2, 1, 1), (4, 1, 1), (1, 4, 1))
        self.same(sheets_for(kinds, False, (3, 4), (1, 1, 1)), None)
        self.same(sheets_for(kinds, False, (3, 4), (1, 0, 1)), 1)
        self.same(sheets_for(kinds, False, (3, 4), (1, 0, 0)), 1)
        self.same(sheets_for(kinds, False, (3, 4), (0, 1, 0)), None)
        self.same(sheets_for(kinds, True, (3, 4), (1, 1, 1)), 1)
        self.same(sheets_for(kinds, True, (3, 3), (6, 1, 0)), None)
        self.same(sheets_for(kinds, True, (3, 3), (4, 0, 0)), 1)
        self.same(sheets_for((), True, (3, 3), ()), 0)

    def test_a_wheel_cannot_be_cut(self):
        # Four pieces of 2 times 1 and one of 1 times 1 fill the board, but not from edge to edge.
        kinds = ((2, 1, 1), (1, 1, 1))
        self.same(sheets_for(kinds, True, (3, 3), (3, 1)), 1)
        self.same(sheets_for(kinds, True, (3, 3), (4, 1)), told_sheets(kinds, True, (3, 3), (4, 1)))
        self.same(sheets_for(((3, 2, 1),), True, (5, 5), (4,)), 2)

    def test_random_numbers(self):
        rng = random.Random(116)
        found = []
        while len(found) < 150:
            kinds, turning = random_kinds(rng, 5, 3), rng.random() < 0.5
            board = (rng.randint(2, 6), rng.randint(2, 6))
            numbers = tuple(rng.choice((0, 1, 1, 2, 3)) for _ in kinds)
            if sum(numbers) <= 5:
                asked = (kinds, turning, board, numbers)
                found.append(told_sheets(*asked))
                self.same(self.pure(sheets_for, *asked), found[-1], asked)
        self.assertGreater(found.count(None), 10)
        self.assertGreater(len(set(found)), 4)

    def test_as_many_as_fit_go_on_one_board(self):
        rng = random.Random(117)
        for _ in range(40):
            width, height = rng.randint(2, 4), rng.randint(2, 4)
            board, turning = (rng.randint(4, 8), rng.randint(4, 8)), rng.random() < 0.5
            most = most_pieces(width, height, turning, board)
            for number in range(1, 7):
                wanted = -(-number // most) if most else None
                self.same(sheets_for(((width, height, 1),), turning, board, (number,)), wanted)


class TestSoon(ShopCase):
    """Point 0.2: tables of 40 times 40; boards of 10 times 10 with 4 wanted pieces."""

    def test_large_tables(self):
        kinds = ((3, 7, 20), (5, 4, 19), (11, 2, 21), (1, 9, 7), (13, 13, 171), (6, 6, 35))
        for turning in (False, True):
            table = value_table(kinds, turning, (40, 40))
            self.true(check_table(kinds, turning, (40, 40), table))
            plan = best_plan(kinds, turning, (40, 40))
            self.true(check_plan(kinds, turning, (40, 40), plan))
            self.same(plan_value(kinds, turning, (40, 40), plan), table[-1][-1])
        self.same(most_pieces(1, 1, False, (40, 40)), 1600)
        self.true(check_plan(((1, 1, 1),), False, (40, 40), best_plan(((1, 1, 1),), False, (40, 40))))

    def test_boards(self):
        kinds = ((7, 4, 1), (6, 6, 1), (3, 9, 1), (5, 5, 1), (10, 1, 1), (2, 8, 1))
        for numbers in ((1, 1, 1, 1, 0, 0), (0, 0, 1, 1, 1, 1), (4, 0, 0, 0, 0, 0), (2, 1, 1, 0, 0, 0)):
            self.same(sheets_for(kinds, True, (10, 10), numbers), told_sheets(kinds, True, (10, 10), numbers))
        self.true(sheets_for(kinds, True, (10, 10), (2, 2, 1, 1, 1, 1)) >= 2)

    def test_values_that_are_no_plans(self):
        self.assertEqual([value for value in JUNK if check_plan(KINDS, True, (2, 2), value) is not False], [])


if __name__ == "__main__":
    unittest.main()
