"""Part 3: piles that are read as pages."""

import random
import unittest

from foldandbound.errors import BadFold, TooMany
from foldandbound.folding import all_folded, flat
from foldandbound.reading import alike_folds, faces_of, first_wrong, is_right, laying, motion_between, reading
from foldandbound.sheets import is_lay, turned_lay
from tests.support import (
    MOTIONS, Paper, ShopCase, content_of, full_rows, paper_folded, random_folds, random_lay, small_sizes)

OVER = ("column", 1, "low", "over")
UNDER = ("column", 1, "low", "under")
HIGH_OVER = ("column", 1, "high", "over")
HIGH_UNDER = ("column", 1, "high", "under")


def pile_of(size, folds):
    return all_folded(size, folds)[0][0]


def seen_in(paper, contents):
    """The faces that are read in a paper of one place; contents from sheets to their prints."""
    found = []
    for (sheet, r, c, side), flip in paper.read():
        page, printed_flip = contents[sheet][0, r, c, side]
        found.append((page, printed_flip ^ flip if page else 0))
    return found


class TestFacesOf(ShopCase):
    """Point 3.1."""

    def test_one_layer(self):
        self.same(faces_of(((4, 2, 3, 0, 0),)), [(4, 2, 3, "front", 0), (4, 2, 3, "back", 0)])
        self.same(faces_of(((4, 2, 3, 1, 0),)), [(4, 2, 3, "back", 0), (4, 2, 3, "front", 0)])
        self.same(faces_of(((4, 2, 3, 0, 1),)), [(4, 2, 3, "back", 1), (4, 2, 3, "front", 1)])
        self.same(faces_of(((4, 2, 3, 1, 1),)), [(4, 2, 3, "front", 1), (4, 2, 3, "back", 1)])

    def test_from_the_top(self):
        self.same(faces_of(((0, 0, 1, 0, 0), (5, 0, 0, 1, 0))),
                  [(5, 0, 0, "back", 0), (5, 0, 0, "front", 0), (0, 0, 1, "front", 0), (0, 0, 1, "back", 0)])

    def test_like_paper(self):
        rng = random.Random(31)
        for _ in range(300):
            size = rng.choice(small_sizes(16))
            paper = paper_folded(size, random_folds(rng, size)).moved(rng.choice(MOTIONS))
            wanted = [side + (flip,) for side, flip in paper.read()]
            self.same(self.pure(faces_of, paper.stack()[0][0]), wanted)


class TestReading(ShopCase):
    """Point 3.2."""

    def test_two_sheets(self):
        lays = {3: ((((1, 0),),), (((2, 1),),)), 8: ((((0, 0),),), (((4, 0),),))}
        self.same(reading(lays, ((3, 0, 0, 0, 0), (8, 0, 0, 0, 0))), [(0, 0), (4, 0), (1, 0), (2, 1)])
        self.same(reading(lays, ((8, 0, 0, 0, 1), (3, 0, 0, 1, 1))), [(1, 1), (2, 0), (4, 1), (0, 0)])

    def test_like_paper(self):
        rng = random.Random(32)
        for _ in range(200):
            size = rng.choice(small_sizes(16))
            first = paper_folded(size, random_folds(rng, size))
            leaves = paper_folded(size, random_folds(rng, size)).leaves
            second = Paper({(5,) + key[1:]: leaf for key, leaf in leaves.items()})
            both = first.under(second).moved(rng.choice(MOTIONS))
            lays = {0: random_lay(rng, size), 5: random_lay(rng, size), 9: random_lay(rng, (1, 1))}
            contents = {number: content_of(lay) for number, lay in lays.items()}
            self.same(self.pure(reading, lays, both.stack()[0][0]), seen_in(both, contents))

    def test_right_readings(self):
        for n in range(5):
            for blanks in range(4):
                faces = [(k, 0) for k in range(1, n + 1)] + [(0, 0)] * blanks
                self.true(self.pure(is_right, faces, n))
                self.same(self.pure(first_wrong, faces, n), None)
                # Fewer faces than pages: the first one that is missing is told.
                for more in (1, 2, 5):
                    self.false(is_right(faces, n + more))
                    self.same(first_wrong(faces, n + more), n)
                if n > 0:
                    self.same(first_wrong(faces, n - 1), n - 1)

    def test_first_wrong(self):
        self.same(first_wrong([], 0), None)
        self.true(is_right([], 0))
        self.same(first_wrong([], 1), 0)
        self.same(first_wrong([(1, 0)], 2), 1)
        self.same(first_wrong([(1, 0), (2, 0)], 4), 2)
        self.same(first_wrong([(1, 1)], 1), 0)
        self.same(first_wrong([(1, 0), (2, 1), (4, 0)], 3), 1)
        self.same(first_wrong([(1, 0), (3, 0), (2, 0)], 3), 1)
        self.same(first_wrong([(1, 0), (2, 0), (3, 0)], 2), 2)
        self.same(first_wrong([(1, 0), (0, 0), (2, 0)], 2), 1)
        self.same(first_wrong([(0, 0), (1, 0)], 1), 0)
        self.same(first_wrong([(1, 0), (0, 0), (0, 0), (7, 0)], 1), 3)
        self.same(first_wrong([(2, 0)], 0), 0)
        self.same(first_wrong([(1, 1)], 4), 0)

    def test_each_wrong_face_is_found(self):
        right = [(1, 0), (2, 0), (3, 0), (0, 0), (0, 0)]
        for at in range(len(right)):
            for face in ((1, 0), (1, 1), (2, 0), (2, 1), (3, 0), (3, 1), (0, 0), (4, 0), (9999, 0)):
                faces = right[:at] + [face] + right[at + 1:]
                self.same(first_wrong(faces, 3), None if face == right[at] else at, faces)
                self.same(is_right(faces, 3), face == right[at], faces)


class TestLaying(ShopCase):
    """Point 3.3."""

    def test_one_fold(self):
        self.same(laying((1, 2), (OVER,), 4), ((((2, 0), (3, 0)),), (((4, 0), (1, 0)),)))
        self.same(laying((1, 2), (OVER,), 3), ((((2, 0), (3, 0)),), (((0, 0), (1, 0)),)))
        self.same(laying((1, 2), (OVER,), 0), ((((0, 0), (0, 0)),), (((0, 0), (0, 0)),)))
        self.same(laying((1, 2), (UNDER,), 4), ((((4, 0), (1, 0)),), (((2, 0), (3, 0)),)))
        self.same(laying((2, 1), (("row", 1, "low", "over"),), 4), ((((2, 1),), ((3, 0),)), (((1, 1),), ((4, 0),))))
        self.same(laying((1, 1), (), 2), ((((1, 0),),), (((2, 0),),)))
        self.same(laying((1, 1), (), 1), ((((1, 0),),), (((0, 0),),)))

    def test_a_quarto(self):
        # Folded to the left and then upwards, as paper shows it.
        folds = (("column", 1, "low", "over"), ("row", 1, "low", "over"))
        lay = laying((2, 2), folds, 8)
        content = content_of(lay)
        self.same(seen_in(paper_folded((2, 2), folds), {0: content}), [(k, 0) for k in range(1, 9)])

    def test_right_for_all_small_sheets(self):
        for size in ((1, 1), (1, 2), (1, 3), (2, 2), (3, 1), (1, 4), (2, 3), (3, 2)):
            sides = 2 * size[0] * size[1]
            for folds in full_rows(size):
                paper = paper_folded(size, folds)
                for n in (0, 1, sides - 1, sides):
                    lay = laying(size, folds, n)
                    self.true(is_lay(size, lay))
                    wanted = [(k + 1, 0) if k < n else (0, 0) for k in range(sides)]
                    self.same(seen_in(paper, {0: content_of(lay)}), wanted, folds)

    def test_right_for_larger_sheets(self):
        rng = random.Random(33)
        for _ in range(200):
            size = rng.choice(small_sizes(16))
            folds = random_folds(rng, size)
            sides = 2 * size[0] * size[1]
            n = rng.choice([0, 1, sides - 1, sides, rng.randint(0, sides)])
            lay = self.pure(laying, size, folds, n)
            self.true(is_lay(size, lay))
            self.true(is_right(reading({0: lay}, pile_of(size, folds)), n))
            wanted = [(k + 1, 0) if k < n else (0, 0) for k in range(sides)]
            self.same(seen_in(paper_folded(size, folds), {0: content_of(lay)}), wanted)

    def test_errors(self):
        for n in (0, 1, 4):
            self.fails(BadFold, laying, (1, 2), (), n)
            self.fails(BadFold, laying, (1, 2), (OVER, OVER), n)
            self.fails(BadFold, laying, (1, 3), (OVER,), n)
            self.fails(BadFold, laying, (2, 2), (OVER,), n)
            self.fails(BadFold, laying, (2, 2), (("row", 1, "low", "over"),), n)
            self.fails(BadFold, laying, (1, 2), (("row", 1, "low", "over"),), n)
        for size, folds in (((1, 1), ()), ((1, 2), (OVER,)), ((1, 3), (OVER, OVER))):
            sides = 2 * size[0] * size[1]
            laying(size, folds, sides)
            for n in (sides + 1, sides + 2, 9999, 10 ** 12):
                self.fails(TooMany, laying, size, folds, n)

    def test_a_bad_row_of_folds_comes_first(self):
        self.fails(BadFold, laying, (1, 2), (), 5)
        self.fails(BadFold, laying, (1, 2), (OVER, OVER), 5)
        self.fails(BadFold, laying, (1, 1), (OVER,), 3)


def pile_readings_equal(first, second):
    """Alike piles have the same sides in the same flips: a lay shows each difference."""
    return first.read() == second.read()


class TestAlikeFolds(ShopCase):
    """Point 3.4."""

    def test_one_fold(self):
        self.true(alike_folds((1, 2), (OVER,), (OVER,)))
        self.false(alike_folds((1, 2), (OVER,), (UNDER,)))
        self.false(alike_folds((1, 2), (OVER,), (HIGH_UNDER,)))
        self.false(alike_folds((1, 2), (OVER,), (HIGH_OVER,)))
        self.same(motion_between((1, 2), (OVER,), (OVER,)), "stay")
        self.same(motion_between((1, 2), (OVER,), (HIGH_OVER,)), "turn")
        self.same(motion_between((1, 2), (HIGH_UNDER,), (UNDER,)), "turn")
        self.same(motion_between((1, 2), (OVER,), (UNDER,)), None)
        self.same(motion_between((1, 2), (OVER,), (HIGH_UNDER,)), None)
        self.true(alike_folds((1, 1), (), ()))
        self.same(motion_between((1, 1), (), ()), "stay")
        self.same(motion_between((2, 1), (("row", 1, "low", "over"),), (("row", 1, "high", "over"),)), "tumble")

    def model_motion(self, size, first, second):
        one, other = paper_folded(size, first), paper_folded(size, second)
        for motion in MOTIONS:
            if pile_readings_equal(one, other.moved(motion)):
                return motion
        return None

    def test_all_pairs_of_small_sheets(self):
        found = {}
        for size in ((1, 2), (2, 1), (1, 3), (2, 2)):
            rows = full_rows(size)
            for first in rows:
                for second in rows:
                    wanted = pile_readings_equal(paper_folded(size, first), paper_folded(size, second))
                    self.same(alike_folds(size, first, second), wanted, (first, second))
                    motion = self.model_motion(size, first, second)
                    found[motion] = True
                    self.same(motion_between(size, first, second), motion, (first, second))
        self.assertEqual(set(found), {None, "stay", "turn", "tumble", "spin"})

    def test_unlike_rows_that_are_alike(self):
        seen = {}
        rng = random.Random(34)
        pairs = 0
        for size in ((1, 4), (2, 3), (3, 2)):
            for folds in full_rows(size):
                seen.setdefault((size, paper_folded(size, folds).stack()), []).append(folds)
        for (size, _), rows in seen.items():
            if len(rows) > 1:
                first, second = rng.sample(rows, 2)
                pairs += 1
                self.true(alike_folds(size, first, second))
                self.same(motion_between(size, first, second), "stay")
                lay = random_lay(rng, size)
                self.same(reading({0: lay}, pile_of(size, first)), reading({0: lay}, pile_of(size, second)))
        self.assertGreater(pairs, 10)

    def test_errors(self):
        for function in (alike_folds, motion_between):
            self.fails(BadFold, function, (1, 2), (OVER,), ())
            self.fails(BadFold, function, (1, 2), (), (OVER,))
            self.fails(BadFold, function, (1, 2), (), ())
            self.fails(BadFold, function, (1, 2), (OVER, OVER), (OVER,))
            self.fails(BadFold, function, (1, 2), (OVER,), (OVER, OVER))
            self.fails(BadFold, function, (1, 3), (OVER, OVER), (OVER,))
            self.fails(BadFold, function, (2, 2), (OVER,), (OVER,))

    def test_pure(self):
        self.true(self.pure(alike_folds, (1, 2), (OVER,), (OVER,)))
        self.same(self.pure(motion_between, (1, 2), (OVER,), (HIGH_OVER,)), "turn")


class TestTogether(ShopCase):
    """What parts 1, 2 and 3 say of each other."""

    def test_a_turned_sheet_has_the_turned_lay(self):
        rng = random.Random(35)
        for size in ((1, 1), (1, 2), (2, 2), (2, 3)):
            for motion in MOTIONS:
                lay = random_lay(rng, size)
                turned = content_of(turned_lay(lay, motion))
                seen = Paper.flat(size).moved(motion).top()
                for panel, (side, flip) in seen.items():
                    page, printed_flip = content_of(lay)[side]
                    face = (page, printed_flip ^ flip if page else 0)
                    self.same(turned[(0,) + panel + ("front",)], face)

    def test_flat_sheet_of_one_panel(self):
        lay = ((((7, 1),),), (((8, 0),),))
        self.same(reading({2: lay}, flat(2, (1, 1))[0][0]), [(7, 1), (8, 0)])


class TestSoon(ShopCase):
    """Point 0.2: sheets of 16 panels."""

    def test_sheets_of_16_panels(self):
        rng = random.Random(36)
        for size in ((1, 16), (16, 1), (2, 8), (8, 2), (4, 4)):
            first, second = random_folds(rng, size), random_folds(rng, size)
            self.true(is_right(reading({0: laying(size, first, 32)}, pile_of(size, first)), 32))
            wanted = pile_readings_equal(paper_folded(size, first), paper_folded(size, second))
            self.same(alike_folds(size, first, second), wanted)
            motion_between(size, first, second)


if __name__ == "__main__":
    unittest.main()
