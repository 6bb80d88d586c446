"""Part 10: layouts and cuts."""

import functools
import itertools
import random
import unittest

from foldandbound.errors import BadTree
from foldandbound.layouts import can_be_cut, check_cutting, cutting_paper, fewest_cuts, is_layout, pieces_from
from tests.support import JUNK, ShopCase, corrupted, is_strictly

# Four pieces around a middle of one cell: no line from edge to edge is free.
WHEEL = ((0, 0, 2, 1), (2, 0, 1, 2), (1, 2, 2, 1), (0, 1, 1, 2))
MIDDLE = (1, 1, 1, 1)
WASTE = ("waste",)


# The model knows a layout by the cells of its board: from each cell `(x, y)` to the piece that covers it.

def cells_of(part):
    left, top, width, height = part
    return [(x, y) for x in range(left, left + width) for y in range(top, top + height)]


def owners_of(layout):
    """From each covered cell to its piece, or None if the layout is none."""
    (width, height), pieces = layout
    owners = {}
    for k, piece in enumerate(pieces):
        for cell in cells_of(piece):
            if cell in owners or not (0 <= cell[0] < width and 0 <= cell[1] < height):
                return None
            owners[cell] = k
    return owners


def inside_of(layout, part):
    """The pieces that lie in a part, or None if one reaches over its edge."""
    cells = set(cells_of(part))
    found = []
    for k, piece in enumerate(layout[1]):
        covered = cells & set(cells_of(piece))
        if covered and len(covered) < piece[2] * piece[3]:
            return None
        if covered:
            found.append(k)
    return found


def parts_at(part, axis, at):
    """The two parts of a part, or None if the line is not strictly between its edges."""
    left, top, width, height = part
    if axis == "x" and left < at < left + width:
        return (left, top, at - left, height), (at, top, width - (at - left), height)
    if axis == "y" and top < at < top + height:
        return (left, top, width, at - top), (left, at, width, height - (at - top))
    return None


def is_free(layout, part, axis, at):
    """True if no piece has cells on both sides of the line, side by side, within the part."""
    owners = owners_of(layout)
    for x, y in cells_of(part):
        before = (x - 1, y) if axis == "x" else (x, y - 1)
        if (x if axis == "x" else y) == at and owners.get((x, y)) is not None:
            if owners.get((x, y)) == owners.get(before):
                return False
    return True


def lines_of(part):
    left, top, width, height = part
    return [("x", at) for at in range(left + 1, left + width)] + [("y", at) for at in range(top + 1, top + height)]


def holds_tree(layout, part, tree):
    """True if a tree of the right form is a cut tree for a part in which no piece reaches over the edge."""
    if tree[0] == "waste":
        return inside_of(layout, part) == []
    if tree[0] == "piece":
        return 0 <= tree[1] < len(layout[1]) and layout[1][tree[1]] == part
    _, axis, at, low, high = tree
    halves = parts_at(part, axis, at)
    if halves is None or not is_free(layout, part, axis, at):
        return False
    return holds_tree(layout, halves[0], low) and holds_tree(layout, halves[1], high)


def holds_stuck(layout, part):
    """True if a part on the board is stuck."""
    inside = inside_of(layout, part)
    if inside is None or len(inside) < 2:
        return False
    for axis, at in lines_of(part):
        if is_free(layout, part, axis, at):
            sides = [inside_of(layout, half) for half in parts_at(part, axis, at)]
            if sides[0] and sides[1]:
                return False
    return True


def told_fewest(layout):
    """The fewest cuts of all trees, with all lines at whole numbers, or None."""
    board, pieces = layout

    @functools.lru_cache(maxsize=None)
    def fewest(part):
        inside = inside_of(layout, part)
        if not inside or pieces[inside[0]] == part:
            return 0
        found = []
        for axis, at in lines_of(part):
            if is_free(layout, part, axis, at):
                counts = [fewest(half) for half in parts_at(part, axis, at)]
                if None not in counts:
                    found.append(1 + sum(counts))
        return min(found) if found else None

    return fewest((0, 0) + board)


def all_parts(board):
    width, height = board
    return [(x, y, w, h) for x in range(width) for y in range(height)
            for w in range(1, width - x + 1) for h in range(1, height - y + 1)]


def random_layout(rng, most_side=6, most_pieces=6):
    board = (rng.randint(1, most_side), rng.randint(1, most_side))
    pieces = []
    for _ in range(rng.randint(0, 2 * most_pieces)):
        x, y = rng.randrange(board[0]), rng.randrange(board[1])
        piece = (x, y, rng.randint(1, min(3, board[0] - x)), rng.randint(1, min(3, board[1] - y)))
        if len(pieces) < most_pieces and owners_of((board, tuple(pieces) + (piece,))) is not None:
            pieces.append(piece)
    return (board, tuple(pieces))


def nodes_of(tree):
    return 1 + sum(nodes_of(part) for part in tree[3:]) if tree[0] == "cut" else 1


def cuts_of(tree):
    return 1 + sum(cuts_of(part) for part in tree[3:]) if tree[0] == "cut" else 0


def changed_trees(rng, tree, many):
    """Trees of the right form with one node changed."""
    if tree[0] == "cut":
        _, axis, at, low, high = tree
        yield ("cut", "y" if axis == "x" else "x", at, low, high)
        yield ("cut", axis, at + 1, low, high)
        yield ("cut", axis, at - 1, low, high)
        yield ("cut", axis, at, high, low)
        yield WASTE
        for other in changed_trees(rng, low, many):
            yield ("cut", axis, at, other, high)
        for other in changed_trees(rng, high, many):
            yield ("cut", axis, at, low, other)
    else:
        yield ("piece", rng.randrange(-1, many + 1))
        yield WASTE
        yield ("cut", rng.choice("xy"), rng.randint(0, 6), tree, WASTE)
        yield ("cut", rng.choice("xy"), rng.randint(0, 6), WASTE, tree)
        yield ("cut", rng.choice("xy"), rng.randint(0, 6), WASTE, WASTE)


class TestIsLayout(ShopCase):
    """Point 10.1."""

    def test_boards(self):
        for width, height in itertools.product((-1, 0, 1, 2, 999, 1000, 1001), repeat=2):
            self.same(is_layout(((width, height), ())), 1 <= width <= 1000 and 1 <= height <= 1000, (width, height))

    def test_pieces_on_the_board(self):
        board = (4, 3)
        for piece in itertools.product(range(-1, 5), range(-1, 4), range(-1, 6), range(-1, 5)):
            left, top, width, height = piece
            wanted = left >= 0 and top >= 0 and width >= 1 and height >= 1
            wanted = wanted and left + width <= 4 and top + height <= 3
            self.same(is_layout((board, (piece,))), wanted, piece)
        self.true(is_layout(((1000, 1000), ((0, 0, 1000, 1000),))))
        self.true(is_layout(((1000, 1000), ((999, 999, 1, 1),))))
        self.false(is_layout(((1000, 1000), ((999, 999, 2, 1),))))
        self.false(is_layout(((1000, 1000), ((999, 999, 1, 2),))))
        self.false(is_layout(((1000, 1000), ((1000, 0, 1, 1),))))

    def test_numbers_of_pieces(self):
        for many in (0, 1, 29, 30, 31, 60):
            pieces = tuple((k, 0, 1, 1) for k in range(many))
            self.same(is_layout(((60, 1), pieces)), many <= 30, many)

    def test_pieces_that_touch_or_overlap(self):
        self.true(is_layout(((9, 9), ((0, 0, 3, 3), (3, 0, 3, 3), (0, 3, 3, 3), (3, 3, 3, 3)))))
        piece = (3, 3, 3, 3)
        for left, top in itertools.product(range(0, 7), repeat=2):
            for width, height in ((3, 3), (1, 1), (2, 3)):
                other = (left, top, width, height)
                for pieces in ((piece, other), (other, piece), ((0, 8, 1, 1), piece, other)):
                    self.same(is_layout(((9, 9), pieces)), owners_of(((9, 9), pieces)) is not None, pieces)
        self.false(is_layout(((9, 9), (piece, piece))))
        # The last one overlaps the first one.
        self.false(is_layout(((9, 9), (piece, (0, 0, 1, 1), (8, 8, 1, 1), (5, 5, 1, 1)))))

    def test_random_pieces(self):
        rng = random.Random(101)
        found = {True: 0, False: 0}
        for _ in range(400):
            board = (rng.randint(1, 6), rng.randint(1, 6))
            pieces = tuple(tuple(rng.randint(0, 4) for _ in range(2)) + tuple(rng.randint(1, 3) for _ in range(2))
                           for _ in range(rng.randint(0, 4)))
            wanted = owners_of((board, pieces)) is not None
            found[wanted] += 1
            self.same(is_layout((board, pieces)), wanted, (board, pieces))
        self.assertGreater(min(found.values()), 50)

    def test_wrong_values(self):
        self.refuses_junk(is_layout)
        self.refuses_corrupted(is_layout, ((3, 3), WHEEL))
        self.refuses_corrupted(is_layout, ((1, 2), ((0, 1, 1, 1),)))
        for value in (((3, 3),), ((3, 3), (), ()), ((3, 3), []), [(3, 3), ()], ((3,), ()), ((3, 3, 3), ()),
                      ((3, 3), ((0, 0, 1),)), ((3, 3), ((0, 0, 1, 1, 1),)), ((3, 3), (0, 0, 1, 1)), ((3, 3), None),
                      ((3, True), ()), ((3.0, 3), ()), ((3, 3), ((False, 0, 1, 1),)), ((3, 3), ((0, 0, True, 1),)),
                      "ab", ("ab", ()), ((3, 3), "")):
            self.false(is_layout(value), value)


class TestCutting(ShopCase):
    """Point 10.2."""

    def right_paper(self, layout):
        """The paper of a layout, which the model takes too."""
        paper = self.pure(cutting_paper, layout)
        self.true(self.pure(check_cutting, layout, paper), (layout, paper))
        whole = (0, 0) + layout[0]
        self.same(len(paper), 2)
        if paper[0] == "cuts":
            self.true(holds_tree(layout, whole, paper[1]), (layout, paper))
        else:
            self.same(paper[0], "stuck")
            self.assertIn(paper[1], all_parts(layout[0]))
            self.true(holds_stuck(layout, paper[1]), (layout, paper))
        self.same(self.pure(can_be_cut, layout), paper[0] == "cuts", layout)
        return paper

    def test_boards_with_at_most_one_piece(self):
        self.same(self.right_paper(((5, 4), ())), ("cuts", WASTE))
        self.same(self.right_paper(((5, 4), ((0, 0, 5, 4),))), ("cuts", ("piece", 0)))
        for part in all_parts((3, 3)):
            self.same(self.right_paper(((3, 3), (part,)))[0], "cuts")

    def test_wheels(self):
        for pieces in (WHEEL, WHEEL + (MIDDLE,)):
            layout = ((3, 3), pieces)
            self.same(self.right_paper(layout), ("stuck", (0, 0, 3, 3)))
            self.false(can_be_cut(layout))
            # In a corner of a larger board, and beside other pieces.
            larger = ((5, 4), pieces + ((3, 0, 1, 4), (0, 3, 2, 1)))
            self.same(self.right_paper(larger)[0], "stuck")
        # Without one of its pieces, a wheel can be cut.
        for k in range(4):
            self.same(self.right_paper(((3, 3), WHEEL[:k] + WHEEL[k + 1:] + (MIDDLE,)))[0], "cuts")
        # So it can be if its pieces are apart.
        apart = ((0, 0, 4, 2), (4, 0, 2, 4), (2, 4, 4, 2), (0, 2, 2, 4))
        self.same(self.right_paper(((6, 6), apart))[0], "stuck")
        self.same(self.right_paper(((6, 6), ((0, 0, 4, 2), (4, 0, 2, 4), (3, 4, 3, 2), (0, 2, 2, 4))))[0], "stuck")
        self.same(self.right_paper(((6, 6), ((0, 0, 4, 2), (4, 0, 2, 4), (4, 4, 2, 2), (0, 2, 2, 4))))[0], "cuts")

    def test_a_wheel_behind_cuts(self):
        pieces = ((0, 0, 1, 5),) + tuple((x + 1, y + 1, w, h) for x, y, w, h in WHEEL)
        layout = ((5, 5), pieces)
        self.same(self.right_paper(layout)[0], "stuck")
        for part in ((1, 1, 3, 3), (1, 0, 3, 4), (1, 0, 4, 5)):
            self.true(check_cutting(layout, ("stuck", part)), part)
        for part in ((0, 0, 5, 5), (1, 1, 3, 2), (1, 1, 2, 2), (0, 0, 1, 5), (1, 1, 4, 5), (1, 0, 5, 5), (2, 2, 1, 1)):
            self.false(check_cutting(layout, ("stuck", part)), part)

    def test_random_layouts(self):
        rng = random.Random(102)
        words = {"cuts": 0, "stuck": 0}
        for _ in range(250):
            layout = random_layout(rng, rng.choice((3, 4, 5, 6)))
            if rng.random() < 0.3:
                layout = ((6, 6), tuple((x + 1, y + 1, w, h) for x, y, w, h in WHEEL[:rng.randint(3, 4)]))
                x, y = rng.randrange(6), rng.randrange(6)
                longer = ((6, 6), layout[1] + ((x, y, 1, 1),))
                layout = layout if owners_of(longer) is None else longer
            paper = self.right_paper(layout)
            words[paper[0]] += 1
            self.same(paper[0] == "cuts", told_fewest(layout) is not None, layout)
        self.assertGreater(min(words.values()), 30)

    def test_stuck_parts(self):
        rng = random.Random(103)
        for _ in range(30):
            layout = random_layout(rng, 4) if rng.random() < 0.5 else ((3, 4), WHEEL)
            for part in all_parts((layout[0][0] + 1, layout[0][1] + 1)):
                on_board = part[0] + part[2] <= layout[0][0] and part[1] + part[3] <= layout[0][1]
                wanted = on_board and holds_stuck(layout, part)
                self.same(check_cutting(layout, ("stuck", part)), wanted, (layout, part))

    def test_changed_trees(self):
        rng = random.Random(104)
        found = {True: 0, False: 0}
        for _ in range(60):
            layout = random_layout(rng, 5, 4)
            paper = cutting_paper(layout)
            if paper[0] == "cuts":
                for tree in changed_trees(rng, paper[1], len(layout[1])):
                    wanted = holds_tree(layout, (0, 0) + layout[0], tree)
                    found[wanted] += 1
                    self.same(check_cutting(layout, ("cuts", tree)), wanted, (layout, tree))
        self.assertGreater(min(found.values()), 50)

    def test_needless_cuts_are_right(self):
        layout = ((4, 4), ((0, 0, 2, 4),))
        tree = ("cut", "x", 3, ("cut", "x", 2, ("piece", 0), WASTE), ("cut", "y", 1, WASTE, WASTE))
        self.true(check_cutting(layout, ("cuts", tree)))
        self.true(check_cutting(((4, 4), ()), ("cuts", ("cut", "y", 3, WASTE, WASTE))))

    def test_lines_through_pieces(self):
        layout = ((4, 3), ((1, 1, 2, 1),))
        for axis, at in itertools.product("xy", range(0, 5)):
            # Also where neither part has all of the piece, it is not waste.
            for low, high in itertools.product((WASTE, ("piece", 0)), repeat=2):
                self.false(check_cutting(layout, ("cuts", ("cut", axis, at, low, high))), (axis, at, low, high))
        self.false(check_cutting(((2, 1), ((0, 0, 2, 1),)), ("cuts", ("cut", "x", 1, WASTE, WASTE))))
        self.false(check_cutting(((1, 2), ((0, 0, 1, 2),)), ("cuts", ("cut", "y", 1, WASTE, WASTE))))
        # A line ends at the edges of its part: it may meet a piece in the other one.
        layout = ((4, 4), ((0, 0, 2, 2), (2, 0, 2, 2), (1, 2, 2, 2)))
        self.true(check_cutting(layout, ("cuts", ("cut", "y", 2, ("cut", "x", 2, ("piece", 0), ("piece", 1)), (
            "cut", "x", 1, WASTE, ("cut", "x", 3, ("piece", 2), WASTE))))))
        self.false(check_cutting(layout, ("cuts", ("cut", "x", 2, ("cut", "y", 2, ("piece", 0), WASTE), (
            "cut", "y", 2, ("piece", 1), WASTE)))))

    def test_stuck_parts_with_pieces_over_the_edge(self):
        longer = WHEEL[:3] + ((0, 1, 1, 3),)
        layout = ((4, 5), longer)
        self.true(is_layout(layout))
        self.true(check_cutting(layout, ("stuck", (0, 0, 3, 4))))
        self.true(check_cutting(layout, ("stuck", (0, 0, 4, 5))))
        self.false(check_cutting(layout, ("stuck", (0, 0, 3, 3))))
        self.false(check_cutting(layout, ("stuck", (0, 0, 4, 3))))
        # A piece beside the wheel, of which the part has only some.
        layout = ((5, 3), WHEEL + ((3, 0, 2, 3),))
        self.same([w for w in range(1, 6) if check_cutting(layout, ("stuck", (0, 0, w, 3)))], [3])

    def test_cuts_at_the_edge_of_a_part(self):
        layout = ((4, 4), ())
        for axis, at in itertools.product("xy", range(-1, 6)):
            self.same(check_cutting(layout, ("cuts", ("cut", axis, at, WASTE, WASTE))), 0 < at < 4, (axis, at))
        # The numbers are those of the board, not of the part.
        for at in range(0, 5):
            tree = ("cut", "x", 2, WASTE, ("cut", "x", at, WASTE, WASTE))
            self.same(check_cutting(layout, ("cuts", tree)), at == 3, at)
            tree = ("cut", "y", 2, ("cut", "y", at, WASTE, WASTE), WASTE)
            self.same(check_cutting(layout, ("cuts", tree)), at == 1, at)

    def test_leaves(self):
        layout = ((2, 1), ((0, 0, 1, 1), (1, 0, 1, 1)))
        for low, high in itertools.product((WASTE, ("piece", 0), ("piece", 1), ("piece", 2), ("piece", -1)), repeat=2):
            wanted = (low, high) == (("piece", 0), ("piece", 1))
            self.same(check_cutting(layout, ("cuts", ("cut", "x", 1, low, high))), wanted, (low, high))
        self.false(check_cutting(layout, ("cuts", WASTE)))
        self.false(check_cutting(layout, ("cuts", ("piece", 0))))
        self.false(check_cutting(((2, 1), ((0, 0, 1, 1),)), ("cuts", ("piece", 0))))

    def test_both_words(self):
        layout = ((3, 3), WHEEL)
        right = ("stuck", (0, 0, 3, 3))
        self.true(check_cutting(layout, right))
        self.false(check_cutting(layout, ("cuts", (0, 0, 3, 3))))
        self.false(check_cutting(layout, ("stuck", ("cut", "x", 1, WASTE, WASTE))))
        self.false(check_cutting(((3, 3), WHEEL[:3]), right))
        self.false(check_cutting(((3, 3), WHEEL[:1]), right))
        self.false(check_cutting(((3, 3), ()), right))

    def test_wrong_values(self):
        stuck = ((3, 3), WHEEL)
        cut = ((4, 3), ((0, 0, 1, 3), (2, 1, 2, 2)))
        self.refuses_junk(lambda value: check_cutting(stuck, value))
        self.refuses_junk(lambda value: check_cutting(cut, value))
        self.refuses_junk(lambda value: check_cutting(stuck, ("stuck", value)))
        self.refuses_junk(lambda value: check_cutting(cut, ("cuts", value)))
        self.refuses_junk(lambda value: check_cutting(cut, ("cuts", ("cut", "x", 1, ("piece", 0), value))))
        self.refuses_junk(lambda value: check_cutting(cut, ("cuts", ("cut", "x", value, ("piece", 0), WASTE))))
        self.refuses_junk(lambda value: check_cutting(cut, (value, cutting_paper(cut)[1])))
        for layout in (stuck, cut):
            paper = cutting_paper(layout)
            for value in corrupted(paper):
                self.false(check_cutting(layout, value), value)
            for value in (paper + (1,), paper[:1], paper[1], (paper,), list(paper), (paper[0], list(paper[1]))):
                self.false(check_cutting(layout, value), value)
        one = ((1, 1), ((0, 0, 1, 1),))
        self.false(check_cutting(one, ("cuts", ("piece", False))))
        self.false(check_cutting(one, ("cuts", ("piece", 0, 0))))
        self.false(check_cutting(((1, 1), ()), ("cuts", ("waste", 0))))
        self.false(check_cutting(((2, 1), ()), ("cuts", ("cut", "x", True, WASTE, WASTE))))
        self.false(check_cutting(((2, 1), ()), ("cuts", ("cut", "x", 1, WASTE, WASTE, WASTE))))
        self.false(check_cutting(((2, 1), ()), ("cuts", ("cut", "z", 1, WASTE, WASTE))))

    def test_deep_trees(self):
        tree = WASTE
        for at in range(199, 0, -1):
            tree = ("cut", "x", at, WASTE, tree)
        self.true(check_cutting(((200, 1), ()), ("cuts", tree)))
        self.false(check_cutting(((199, 1), ()), ("cuts", tree)))
        self.same(pieces_from((200, 1), tree), [])
        # Each tree stands twice in the one above: they cannot all be right.
        tree = WASTE
        for at in range(190):
            tree = ("cut", "xy"[at % 2], 1, tree, tree)
        self.false(check_cutting(((1000, 1000), ()), ("cuts", tree)))


class TestFewestCuts(ShopCase):
    """Point 10.3, the first half."""

    def test_some(self):
        self.same(fewest_cuts(((5, 5), ())), 0)
        self.same(fewest_cuts(((5, 5), ((0, 0, 5, 5),))), 0)
        self.same(fewest_cuts(((5, 5), ((0, 0, 5, 4),))), 1)
        self.same(fewest_cuts(((5, 5), ((0, 1, 5, 3),))), 2)
        self.same(fewest_cuts(((5, 5), ((1, 1, 3, 3),))), 4)
        self.same(fewest_cuts(((3, 3), WHEEL)), None)
        self.same(fewest_cuts(((3, 3), WHEEL + (MIDDLE,))), None)
        # Two pieces in a row: one cut takes off what is above both, if it comes first.
        self.same(fewest_cuts(((4, 3), ((0, 1, 2, 2), (2, 1, 2, 2)))), 2)
        self.same(fewest_cuts(((4, 3), ((0, 1, 2, 2), (2, 0, 2, 3)))), 2)
        self.same(fewest_cuts(((5, 2), ((0, 0, 2, 2), (3, 0, 2, 2)))), 2)
        self.same(fewest_cuts(((5, 2), ((0, 0, 2, 2), (2, 0, 3, 2)))), 1)
        # The order matters: first between the rows, then each row by itself, or the other way round.
        self.same(fewest_cuts(((4, 4), ((0, 0, 2, 2), (2, 0, 2, 2), (0, 2, 1, 2), (1, 2, 3, 2)))), 3)
        self.same(fewest_cuts(((3, 2), ((0, 0, 1, 1), (2, 1, 1, 1)))), 3)
        self.same(fewest_cuts(((3, 3), ((0, 0, 1, 1), (2, 2, 1, 1)))), 4)

    def test_all_layouts_of_two_pieces(self):
        for board in ((3, 3), (4, 2)):
            parts = all_parts(board)
            for pieces in itertools.combinations(parts, 2):
                layout = (board, pieces)
                if owners_of(layout) is not None:
                    self.same(fewest_cuts(layout), told_fewest(layout), layout)

    def test_random_layouts(self):
        rng = random.Random(105)
        counts = []
        for _ in range(250):
            layout = random_layout(rng, 6, 6)
            counts.append(self.pure(fewest_cuts, layout))
            self.same(counts[-1], told_fewest(layout), layout)
            paper = cutting_paper(layout)
            if counts[-1] is not None:
                self.assertLessEqual(counts[-1], cuts_of(paper[1]))
        self.assertGreater(len(set(counts)), 8)


class TestPiecesFrom(ShopCase):
    """Point 10.3, the second half."""

    def test_some(self):
        self.same(pieces_from((5, 4), WASTE), [])
        self.same(pieces_from((5, 4), ("piece", 7)), [(7, (0, 0, 5, 4))])
        tree = ("cut", "x", 3, ("cut", "y", 1, ("piece", 2), WASTE), ("cut", "x", 4, ("piece", 0), ("piece", 1)))
        self.same(self.pure(pieces_from, (5, 4), tree), [(0, (3, 0, 1, 4)), (1, (4, 0, 1, 4)), (2, (0, 0, 3, 1))])

    def test_pieces_of_papers(self):
        rng = random.Random(106)
        for _ in range(100):
            layout = random_layout(rng, 6, 6)
            paper = cutting_paper(layout)
            if paper[0] == "cuts":
                self.same(self.pure(pieces_from, layout[0], paper[1]), list(enumerate(layout[1])))

    def test_the_layout_of_the_pieces(self):
        tree = ("cut", "y", 2, ("cut", "x", 1, ("piece", 1), ("piece", 0)), ("cut", "x", 2, WASTE, ("piece", 2)))
        pieces = tuple(piece for _, piece in pieces_from((3, 5), tree))
        self.same(pieces, ((1, 0, 2, 2), (0, 0, 1, 2), (2, 2, 1, 3)))
        self.true(is_layout(((3, 5), pieces)))
        self.true(check_cutting(((3, 5), pieces), ("cuts", tree)))

    def test_cuts_that_are_not_inside(self):
        for axis, length in (("x", 5), ("y", 4)):
            for at in range(-2, 8):
                tree = ("cut", axis, at, WASTE, ("piece", 0))
                if 0 < at < length:
                    self.same(len(pieces_from((5, 4), tree)), 1)
                else:
                    self.fails(BadTree, pieces_from, (5, 4), tree)
        for at in range(0, 7):
            tree = ("cut", "x", 3, ("cut", "x", at, ("piece", 0), WASTE), WASTE)
            other = ("cut", "x", 3, WASTE, ("cut", "x", at, ("piece", 0), WASTE))
            if 0 < at < 3:
                self.same(pieces_from((5, 4), tree), [(0, (0, 0, at, 4))])
            else:
                self.fails(BadTree, pieces_from, (5, 4), tree)
            if at == 4:
                self.same(pieces_from((5, 4), other), [(0, (3, 0, 1, 4))])
            else:
                self.fails(BadTree, pieces_from, (5, 4), other)
        self.fails(BadTree, pieces_from, (1, 1), ("cut", "y", 1, WASTE, WASTE))

    def test_numbers_that_stand_twice(self):
        self.fails(BadTree, pieces_from, (5, 4), ("cut", "x", 3, ("piece", 0), ("piece", 0)))
        self.fails(BadTree, pieces_from, (5, 4), ("cut", "x", 3, ("cut", "y", 1, ("piece", 4), ("piece", 5)),
                                                  ("cut", "y", 1, ("piece", 6), ("piece", 4))))
        tree = ("cut", "x", 1, ("piece", 9), ("piece", 3))
        self.same(pieces_from((2, 1), tree), [(3, (1, 0, 1, 1)), (9, (0, 0, 1, 1))])


class TestSoon(ShopCase):
    """Point 0.2: layouts of 12 pieces, and of more."""

    def test_large_layouts(self):
        rng = random.Random(107)
        scattered = tuple((80 * k + rng.randint(0, 40), rng.randint(0, 900), rng.randint(1, 40), rng.randint(1, 99))
                          for k in range(12))
        diagonal = tuple((k * 80, k * 80, 5, 5) for k in range(12))
        rows = tuple((300 * (k % 3), 200 * (k // 3), 250, 150) for k in range(12))
        for pieces in (scattered, diagonal, rows):
            layout = ((1000, 1000), pieces)
            self.true(is_layout(layout))
            self.true(can_be_cut(layout))
            paper = cutting_paper(layout)
            self.true(check_cutting(layout, paper))
            self.same(pieces_from(layout[0], paper[1]), list(enumerate(pieces)))
            self.assertLessEqual(fewest_cuts(layout), cuts_of(paper[1]))
        # Two margins; between the rows and the columns, each time, a cut and one for what is left between them.
        self.same(fewest_cuts(((1000, 1000), rows)), 2 + 3 * 2 + 4 * (2 * 2))

    def test_thirty_pieces(self):
        pieces = tuple((k % 6 * 3, k // 6 * 3, 3, 3) for k in range(30))
        layout = ((18, 15), pieces)
        self.same(fewest_cuts(layout), 29)
        self.true(check_cutting(layout, cutting_paper(layout)))
        self.assertEqual(nodes_of(cutting_paper(layout)[1]), 59)

    def test_values_that_are_no_papers(self):
        layout = ((3, 3), WHEEL)
        self.assertEqual([value for value in JUNK if check_cutting(layout, value) is not False], [])
        self.true(is_strictly(cutting_paper(layout), ("stuck", (0, 0, 3, 3))))


if __name__ == "__main__":
    unittest.main()
