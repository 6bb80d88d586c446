"""Part 2: stacks, folds and creases."""

import random
import unittest

from foldandbound.errors import BadFold
from foldandbound.folding import all_folded, creases, flat, folded, is_fold, is_full, is_stack, turned
from tests.support import (
    MOTIONS, Paper, ShopCase, all_folds, full_rows, paper_folded, random_folds, small_sizes)

LAYER = (0, 0, 0, 0, 0)
A, B, C, D = (0, 0, 0, 0, 0), (0, 0, 1, 0, 0), (0, 0, 2, 0, 0), (0, 0, 3, 0, 0)
A_TURNED, B_TURNED, C_TURNED, D_TURNED = (0, 0, 0, 1, 0), (0, 0, 1, 1, 0), (0, 0, 2, 1, 0), (0, 0, 3, 1, 0)


class TestStacks(ShopCase):
    """Point 2.1."""

    def test_layers(self):
        good = [(0, 0, 0, 0, 0), (10 ** 20, 15, 15, 1, 1), (3, 0, 15, 1, 0), (3, 15, 0, 0, 1)]
        for layer in good:
            self.true(is_stack((((layer,),),)), layer)
        wrong = [(-1, 0, 0, 0, 0), (0, 16, 0, 0, 0), (0, 0, 16, 0, 0), (0, -1, 0, 0, 0), (0, 0, -1, 0, 0),
                 (0, 0, 0, 2, 0), (0, 0, 0, 0, 2), (0, 0, 0, -1, 0), (0, 0, 0, 0, -1), (0, 0, 0, 0),
                 (0, 0, 0, 0, 0, 0), (), [0, 0, 0, 0, 0], None, 0, "00000", (True, 0, 0, 0, 0), (0, True, 0, 0, 0),
                 (0, 0, True, 0, 0), (0, 0, 0, True, 0), (0, 0, 0, 0, True), (0, 0, 0, False, 0), (0.0, 0, 0, 0, 0),
                 (False, 0, 0, 0, 0), (0, 0, 0, 0, 1.0), ((0, 0, 0, 0, 0),)]
        for layer in wrong:
            self.false(is_stack((((layer,),),)), layer)
            self.false(is_stack((((LAYER,), (LAYER, layer)),)), layer)
            self.false(is_stack((((LAYER,),), ((layer, LAYER),))), layer)

    def test_heights_of_piles(self):
        for many, wanted in ((0, False), (1, True), (2, True), (63, True), (64, True), (65, False)):
            self.same(is_stack((((LAYER,) * many,),)), wanted, many)
            self.same(is_stack((((LAYER,), (LAYER,) * many),)), wanted, many)
        self.true(is_stack((((LAYER,) * 64,) * 8,) * 8))

    def test_numbers_of_places(self):
        pile = (LAYER,)
        good = [(1, 1), (1, 64), (64, 1), (8, 8), (2, 32), (32, 2), (3, 21), (7, 9)]
        wrong = [(1, 65), (65, 1), (5, 13), (13, 5), (9, 8), (8, 9), (2, 33), (0, 1), (1, 0), (64, 0)]
        for rows, columns in good:
            self.true(is_stack(((pile,) * columns,) * rows), (rows, columns))
        for rows, columns in wrong:
            self.false(is_stack(((pile,) * columns,) * rows), (rows, columns))

    def test_rows_of_unlike_lengths_and_empty_piles(self):
        pile = (LAYER,)
        self.false(is_stack(((pile, pile), (pile,))))
        self.false(is_stack(((pile,), (pile, pile))))
        self.false(is_stack(((pile, pile), (pile, pile), ())))
        self.false(is_stack(((), (pile,))))
        self.false(is_stack(((pile, ()), (pile, pile))))
        self.true(is_stack(((pile, pile + pile), (pile, pile))))

    def test_wrong_values(self):
        self.refuses_junk(is_stack, ((((0, 0, 0, 0, 0),),),))
        self.refuses_corrupted(is_stack, (((A, B_TURNED), (C,)), ((D,), (A, A))))
        self.refuses_corrupted(is_stack, (((A,),),))

    def test_flat(self):
        self.same(flat(7, (2, 2)), ((((7, 0, 0, 0, 0),), ((7, 0, 1, 0, 0),)), (((7, 1, 0, 0, 0),), ((7, 1, 1, 0, 0),))))
        for size in small_sizes(16) + [(8, 8), (4, 16)]:
            for number in (0, 5):
                stack = self.pure(flat, number, size)
                self.same(stack, Paper.flat(size, number).stack())
                self.true(is_stack(stack))


class TestTurned(ShopCase):
    """Point 2.2."""

    def test_one_row(self):
        stack = (((A, B), (C,)),)
        self.same(turned(stack, "stay"), stack)
        self.same(turned(stack, "turn"), (((C_TURNED,), (B_TURNED, A_TURNED)),))
        self.same(turned(stack, "tumble"), ((((0, 0, 1, 0, 1), (0, 0, 0, 0, 1)), ((0, 0, 2, 0, 1),)),))
        self.same(turned(stack, "spin"), ((((0, 0, 2, 1, 1),), ((0, 0, 0, 1, 1), (0, 0, 1, 1, 1))),))

    def test_one_column(self):
        stack = (((A, B),), ((C,),))
        self.same(turned(stack, "turn"), (((B_TURNED, A_TURNED),), ((C_TURNED,),)))
        self.same(turned(stack, "tumble"), ((((0, 0, 2, 0, 1),),), (((0, 0, 1, 0, 1), (0, 0, 0, 0, 1)),)))
        self.same(turned(stack, "spin"), ((((0, 0, 2, 1, 1),),), (((0, 0, 0, 1, 1), (0, 0, 1, 1, 1)),)))

    def test_like_paper(self):
        rng = random.Random(21)
        for _ in range(300):
            size = rng.choice([(1, 1), (1, 6), (6, 1), (2, 3), (3, 3), (4, 4), (2, 8)])
            paper = paper_folded(size, random_folds(rng, size, full=False))
            for motion in MOTIONS:
                self.same(self.pure(turned, paper.stack(), motion), paper.moved(motion).stack())
                again = turned(turned(paper.stack(), motion), motion)
                self.same(again, paper.stack())


class TestFolds(ShopCase):
    """Points 2.3 and 2.4."""

    def test_is_fold(self):
        for line in range(-2, 67):
            self.same(is_fold(("column", line, "low", "over")), 1 <= line <= 63, line)
            self.same(is_fold(("row", line, "high", "under")), 1 <= line <= 63, line)
        for axis in ("column", "row"):
            for part in ("low", "high"):
                for place in ("over", "under"):
                    self.true(is_fold((axis, 1, part, place)))
                    self.refuses_corrupted(is_fold, (axis, 63, part, place))

    def test_is_fold_wrong_values(self):
        self.refuses_junk(is_fold)
        for value in (("column", 1, "low"), ("column", 1, "low", "over", "over"), ("low", 1, "column", "over"),
                      ("column", 1, "over", "low"), ("column", True, "low", "over"), ("columns", 1, "low", "over"),
                      ("x", 1, "low", "over"), ("", 1, "low", "over"), ("column", 1, "", "over"),
                      ("column", 1, "low", ""), ("column", 1, "front", "over"), ("column", 1, "low", "back"),
                      ["column", 1, "low", "over"], ("column", "1", "low", "over"), ("column", 1.0, "low", "over"),
                      (["column"], 1, "low", "over"), ("column", 1, {}, "over"), ("column", 1, "low", ["over"])):
            self.false(is_fold(value), value)

    def test_four_folds_of_a_row(self):
        stack = flat(0, (1, 3))
        wanted = {
            ("column", 1, "low", "over"): (((B, A_TURNED), (C,)),),
            ("column", 1, "low", "under"): (((A_TURNED, B), (C,)),),
            ("column", 1, "high", "over"): (((C_TURNED,), (A, B_TURNED)),),
            ("column", 1, "high", "under"): (((C_TURNED,), (B_TURNED, A)),),
            ("column", 2, "low", "over"): (((C, B_TURNED), (A_TURNED,)),),
            ("column", 2, "low", "under"): (((B_TURNED, C), (A_TURNED,)),),
            ("column", 2, "high", "over"): (((A,), (B, C_TURNED)),),
            ("column", 2, "high", "under"): (((A,), (C_TURNED, B)),),
        }
        for fold, after in wanted.items():
            self.same(folded(stack, fold), after, fold)

    def test_folds_of_a_column(self):
        stack = flat(0, (3, 1))
        a, b, c = (0, 0, 0, 0, 0), (0, 1, 0, 0, 0), (0, 2, 0, 0, 0)
        a_tumbled, b_tumbled, c_tumbled = (0, 0, 0, 0, 1), (0, 1, 0, 0, 1), (0, 2, 0, 0, 1)
        wanted = {
            ("row", 1, "low", "over"): (((b, a_tumbled),), ((c,),)),
            ("row", 1, "low", "under"): (((a_tumbled, b),), ((c,),)),
            ("row", 1, "high", "over"): (((c_tumbled,),), ((a, b_tumbled),)),
            ("row", 2, "low", "over"): (((c, b_tumbled),), ((a_tumbled,),)),
            ("row", 2, "high", "under"): (((a,),), ((c_tumbled, b),)),
        }
        for fold, after in wanted.items():
            self.same(folded(stack, fold), after, fold)

    def test_moved_piles_are_turned_over(self):
        stack = (((A, B), (C, D)),)
        self.same(folded(stack, ("column", 1, "low", "over")), (((C, D, B_TURNED, A_TURNED),),))
        self.same(folded(stack, ("column", 1, "low", "under")), (((B_TURNED, A_TURNED, C, D),),))
        self.same(folded(stack, ("column", 1, "high", "over")), (((A, B, D_TURNED, C_TURNED),),))
        self.same(folded(stack, ("column", 1, "high", "under")), (((D_TURNED, C_TURNED, A, B),),))

    def test_like_paper(self):
        rng = random.Random(22)
        for _ in range(500):
            size = rng.choice(small_sizes(16) + [(8, 8), (3, 7), (5, 5)])
            paper = Paper.flat(size)
            stack = flat(0, size)
            while all_folds(paper.rows(), paper.columns()):
                fold = rng.choice(all_folds(paper.rows(), paper.columns()))
                paper = paper.folded(fold)
                self.same(folded(stack, fold), paper.stack(), fold)
                stack = paper.stack()
                self.true(is_stack(stack))

    def test_like_paper_for_all_folds(self):
        for size in ((1, 1), (2, 3), (3, 2), (4, 4), (1, 7), (7, 1)):
            for fold in all_folds(*size):
                stack = Paper.flat(size).folded(fold).stack()
                self.same(self.pure(folded, flat(0, size), fold), stack)
                for other in all_folds(len(stack), len(stack[0])):
                    self.same(folded(stack, other), Paper.of_stack(stack).folded(other).stack(), (fold, other))

    def test_folds_of_several_sheets(self):
        stack = ((((3, 0, 0, 0, 0), (7, 0, 0, 1, 1)), ((3, 0, 1, 0, 0), (7, 0, 1, 1, 1)), ((3, 0, 2, 0, 0),)),)
        for fold in all_folds(1, 3):
            self.same(folded(stack, fold), Paper.of_stack(stack).folded(fold).stack(), fold)

    def test_no_such_line(self):
        for size in ((1, 1), (1, 2), (2, 1), (3, 4), (4, 3)):
            rows, columns = size
            for axis, many in (("column", columns), ("row", rows)):
                for line in (-1, 0, many, many + 1, 16, 63):
                    if line >= many or line < 1:
                        for part in ("low", "high"):
                            for place in ("over", "under"):
                                fold = (axis, line, part, place)
                                self.fails(BadFold, folded, flat(0, size), fold)
                                self.fails(BadFold, all_folded, size, (fold,))
                                self.fails(BadFold, creases, size, (fold,))
                                self.false(is_full(size, (fold,)), fold)

    def test_the_last_line_can_be_folded(self):
        for line in range(1, 16):
            self.same(len(folded(flat(0, (1, 16)), ("column", line, "low", "over"))[0]), max(line, 16 - line))
            self.same(len(folded(flat(0, (16, 1)), ("row", line, "low", "over"))), max(line, 16 - line))

    def test_all_folded(self):
        self.same(all_folded((1, 2), ()), flat(0, (1, 2)))
        self.same(all_folded((2, 2), (("column", 1, "low", "over"), ("row", 1, "high", "under"))),
                  ((((0, 1, 0, 1, 1), (0, 1, 1, 0, 1), (0, 0, 1, 0, 0), (0, 0, 0, 1, 0)),),))
        rng = random.Random(23)
        for _ in range(200):
            size = rng.choice(small_sizes(16))
            folds = random_folds(rng, size, full=rng.random() < 0.5)
            self.same(self.pure(all_folded, size, folds), paper_folded(size, folds).stack(), folds)

    def test_all_folded_raises_for_a_later_fold(self):
        fold = ("column", 1, "low", "over")
        self.fails(BadFold, all_folded, (1, 2), (fold, fold))
        self.fails(BadFold, all_folded, (1, 3), (fold, ("row", 1, "low", "over")))
        self.fails(BadFold, all_folded, (1, 4), (("column", 2, "low", "over"), ("column", 2, "low", "over")))

    def test_is_full(self):
        fold = ("column", 1, "low", "over")
        self.true(is_full((1, 1), ()))
        self.false(is_full((1, 1), (fold,)))
        self.false(is_full((1, 2), ()))
        self.true(is_full((1, 2), (fold,)))
        self.false(is_full((1, 2), (fold, fold)))
        self.false(is_full((1, 3), (fold,)))
        self.true(is_full((1, 3), (fold, fold)))
        self.false(is_full((2, 1), ()))
        self.false(is_full((2, 2), (fold,)))
        self.false(is_full((2, 2), (("row", 1, "high", "under"),)))
        self.true(is_full((2, 2), (fold, ("row", 1, "high", "under"))))
        self.false(is_full((1, 2), (("column", 0, "low", "over"),)))
        rng = random.Random(24)
        for _ in range(200):
            size = rng.choice(small_sizes(16))
            folds = random_folds(rng, size, full=rng.random() < 0.5)
            paper = paper_folded(size, folds)
            self.same(self.pure(is_full, size, folds), (paper.rows(), paper.columns()) == (1, 1), folds)


def creases_of_paper(size, folds):
    """Two neighbours lie in one pile exactly if the edge between them is creased."""
    rows, columns = size
    found = []
    leaves = paper_folded(size, folds).leaves
    for r in range(rows):
        for c in range(columns):
            for axis, other in (("column", (0, r, c + 1)), ("row", (0, r + 1, c))):
                if other in leaves and leaves[other][:2] == leaves[0, r, c][:2]:
                    front_up = leaves[0, r, c][3] == leaves[0, r, c][4]
                    higher = leaves[other][2] > leaves[0, r, c][2]
                    found.append((axis, r, c, "valley" if front_up == higher else "mountain"))
    return sorted(found)


class TestCreases(ShopCase):
    """Point 2.5."""

    def test_one_fold(self):
        self.same(creases((1, 2), (("column", 1, "low", "over"),)), [("column", 0, 0, "valley")])
        self.same(creases((1, 2), (("column", 1, "low", "under"),)), [("column", 0, 0, "mountain")])
        self.same(creases((1, 2), (("column", 1, "high", "over"),)), [("column", 0, 0, "valley")])
        self.same(creases((1, 2), (("column", 1, "high", "under"),)), [("column", 0, 0, "mountain")])
        self.same(creases((2, 1), (("row", 1, "high", "over"),)), [("row", 0, 0, "valley")])
        self.same(creases((2, 1), (("row", 1, "low", "under"),)), [("row", 0, 0, "mountain")])
        self.same(creases((1, 1), ()), [])
        self.same(creases((3, 3), ()), [])

    def test_a_fold_of_two_layers(self):
        folds = (("column", 2, "low", "over"), ("column", 1, "low", "over"))
        self.same(creases((1, 4), folds),
                  [("column", 0, 0, "mountain"), ("column", 0, 1, "valley"), ("column", 0, 2, "valley")])

    def test_an_edge_that_was_creased_is_not_creased_again(self):
        # The crease behind panel 1 comes to lie on a line once more.
        folds = (("column", 2, "low", "over"), ("column", 1, "low", "over"), ("column", 1, "low", "over"))
        self.same(creases((1, 6), folds), creases_of_paper((1, 6), folds))
        folds = (("column", 2, "low", "over"), ("column", 1, "low", "over"), ("column", 1, "high", "under"))
        self.same(creases((1, 6), folds), creases_of_paper((1, 6), folds))

    def test_like_paper(self):
        rng = random.Random(25)
        for _ in range(600):
            size = rng.choice(small_sizes(16) + [(1, 9), (5, 5)])
            folds = random_folds(rng, size, full=rng.random() < 0.6)
            self.same(self.pure(creases, size, folds), creases_of_paper(size, folds), (size, folds))

    def test_all_rows_of_folds_of_small_sheets(self):
        for size in ((1, 4), (4, 1), (2, 2), (2, 3), (3, 2)):
            rows, columns = size
            for folds in full_rows(size):
                found = creases(size, folds)
                self.same(found, creases_of_paper(size, folds), folds)
                # In a full row of folds each edge is creased once.
                self.assertEqual(len({crease[:3] for crease in found}), rows * (columns - 1) + columns * (rows - 1))

    def test_bad_folds(self):
        fold = ("column", 1, "low", "over")
        self.fails(BadFold, creases, (1, 2), (fold, fold))
        self.fails(BadFold, creases, (2, 1), (fold,))
        self.fails(BadFold, creases, (1, 2), (("column", 0, "low", "over"),))


class TestSoon(ShopCase):
    """Point 0.2: sheets of 16 panels."""

    def test_sheets_of_16_panels(self):
        rng = random.Random(26)
        for size in ((1, 16), (16, 1), (2, 8), (8, 2), (4, 4)):
            for _ in range(5):
                folds = random_folds(rng, size)
                self.true(is_full(size, folds))
                self.same(all_folded(size, folds), paper_folded(size, folds).stack())
                self.same(creases(size, folds), creases_of_paper(size, folds))


if __name__ == "__main__":
    unittest.main()
