"""Part 1: sheets, panels, ways, faces, plates and lays."""

import random
import unittest

from foldandbound.sheets import after_turn, face_of, is_lay, is_plate, is_size, panels, side_up, spun, turned_lay
from tests.support import (
    MOTIONS, Paper, ShopCase, content_of, lay_seen, plate_seen, random_lay, random_plate, small_sizes)


class TestSizes(ShopCase):
    """Point 1.1."""

    def test_all_pairs_near_the_bounds(self):
        for rows in range(-1, 20):
            for columns in range(-1, 20):
                wanted = 1 <= rows <= 16 and 1 <= columns <= 16 and rows * columns <= 64
                self.same(is_size((rows, columns)), wanted, (rows, columns))

    def test_named_edges(self):
        for size in ((1, 1), (1, 16), (16, 1), (4, 16), (16, 4), (8, 8)):
            self.true(is_size(size), size)
        for value in ((0, 1), (1, 0), (0, 0), (1, 17), (17, 1), (5, 13), (13, 5), (-1, -1), (64, 1), (1, 64)):
            self.false(is_size(value), value)

    def test_wrong_values(self):
        self.refuses_junk(is_size, (1, 2))
        self.refuses_corrupted(is_size, (2, 3))
        self.refuses_corrupted(is_size, (1, 1))
        for value in ((1,), (1, 1, 1), (), "11", [1, 1], ((1, 1),), (True, 1), (1, True), (2.0, 1)):
            self.false(is_size(value), value)

    def test_panels(self):
        self.same(panels((2, 3)), [(0, 0), (0, 1), (0, 2), (1, 0), (1, 1), (1, 2)])
        self.same(panels((3, 1)), [(0, 0), (1, 0), (2, 0)])
        self.same(panels((1, 1)), [(0, 0)])
        for size in small_sizes(64):
            rows, columns = size
            self.same(self.pure(panels, size), sorted((r, c) for r in range(rows) for c in range(columns)))


class TestWays(ShopCase):
    """Points 1.2 and 1.3."""

    def test_side_up(self):
        self.same([side_up((0, 0)), side_up((0, 1)), side_up((1, 0)), side_up((1, 1))],
                  ["front", "back", "back", "front"])

    def test_after_turn(self):
        wanted = {
            "stay": [(0, 0), (0, 1), (1, 0), (1, 1)],
            "turn": [(1, 0), (1, 1), (0, 0), (0, 1)],
            "tumble": [(0, 1), (0, 0), (1, 1), (1, 0)],
            "spin": [(1, 1), (1, 0), (0, 1), (0, 0)],
        }
        for motion, ways in wanted.items():
            self.same([after_turn(way, motion) for way in ((0, 0), (0, 1), (1, 0), (1, 1))], ways, motion)

    def test_upright_on_both_sides(self):
        # Both sides are upright if nothing is turned, or if the sheet is turned from left to right.
        lay = ((((1, 0),),), (((2, 0),),))
        self.same(turned_lay(lay, "turn"), ((((2, 0),),), (((1, 0),),)))
        # From top to bottom, and by half a turn, both are seen upside down.
        self.same(turned_lay(lay, "tumble"), ((((2, 1),),), (((1, 1),),)))
        self.same(turned_lay(lay, "spin"), ((((1, 1),),), (((2, 1),),)))


class TestPlates(ShopCase):
    """Points 1.4 and 1.5."""

    def test_faces(self):
        for face in ((1, 0), (1, 1), (9999, 0), (9999, 1), (0, 0)):
            self.true(is_plate((1, 1), ((face,),)), face)
            self.true(is_lay((1, 1), (((face,),), ((face,),))), face)
        wrong = [(0, 1), (10000, 0), (10000, 1), (-1, 0), (1, 2), (1, -1), (1,), (1, 0, 0), (), [1, 0], 1, None, "10",
                 (True, 0), (1, False), (1, True), (False, 0), (0, False), (1.0, 0), (1, 0.0), ("1", 0), ((1, 0),)]
        for face in wrong:
            self.false(is_plate((1, 1), ((face,),)), face)
            self.false(is_lay((1, 1), (((face,),), (((1, 0),),))), face)
            self.false(is_lay((1, 1), ((((1, 0),),), ((face,),))), face)

    def test_numbers_of_rows_and_columns(self):
        for size in ((1, 1), (1, 3), (2, 2), (3, 2), (16, 1), (8, 8)):
            for other in ((1, 1), (1, 3), (3, 1), (2, 2), (2, 3), (3, 2), (16, 1), (1, 16), (8, 8), (8, 7), (7, 8)):
                plate = (((5, 1),) * other[1],) * other[0]
                self.same(is_plate(size, plate), size == other, (size, other))
                good = (((5, 1),) * size[1],) * size[0]
                self.same(is_lay(size, (plate, good)), size == other, (size, other))
                self.same(is_lay(size, (good, plate)), size == other, (size, other))

    def test_rows_of_unlike_lengths(self):
        a = (1, 0)
        self.false(is_plate((2, 2), ((a, a), (a,))))
        self.false(is_plate((2, 2), ((a,), (a, a))))
        self.false(is_plate((2, 2), ((a, a), (a, a, a))))
        self.false(is_plate((2, 2), ((a, a), (a, a), ())))

    def test_wrong_values(self):
        rng = random.Random(14)
        self.refuses_junk(lambda value: is_plate((1, 2), value))
        self.refuses_junk(lambda value: is_plate((1, 1), value), (((1, 0),),))
        self.refuses_junk(lambda value: is_lay((1, 2), value))
        self.refuses_junk(lambda value: is_lay((1, 1), value))
        for size in ((1, 1), (2, 3)):
            plate = random_plate(rng, size)
            lay = random_lay(rng, size)
            self.refuses_corrupted(lambda value: is_plate(size, value), plate)
            self.refuses_corrupted(lambda value: is_lay(size, value), lay)
            for value in (plate, (plate,), (plate, plate, plate), [plate, plate], lay + lay):
                self.false(is_lay(size, value), value)

    def test_face_of(self):
        lay = ((((1, 0), (2, 0), (3, 1)),), (((4, 0), (5, 1), (6, 0)),))
        self.same([face_of(lay, (0, c), "front") for c in range(3)], [(1, 0), (2, 0), (3, 1)])
        self.same([face_of(lay, (0, c), "back") for c in range(3)], [(6, 0), (5, 1), (4, 0)])
        rng = random.Random(15)
        for size in ((1, 1), (3, 2), (4, 4), (1, 16), (16, 1)):
            lay = random_lay(rng, size, 9999)
            for r in range(size[0]):
                for c in range(size[1]):
                    self.same(face_of(lay, (r, c), "front"), lay[0][r][c])
                    self.same(face_of(lay, (r, c), "back"), lay[1][r][size[1] - 1 - c])

    def test_turned_lay_of_one_panel_row(self):
        lay = ((((1, 0), (2, 1)),), (((3, 0), (0, 0)),))
        self.same(turned_lay(lay, "stay"), lay)
        self.same(turned_lay(lay, "turn"), ((((3, 0), (0, 0)),), (((1, 0), (2, 1)),)))
        self.same(turned_lay(lay, "tumble"), ((((0, 0), (3, 1)),), (((2, 0), (1, 1)),)))
        self.same(turned_lay(lay, "spin"), ((((2, 0), (1, 1)),), (((0, 0), (3, 1)),)))

    def test_turned_lay_is_what_is_seen(self):
        rng = random.Random(16)
        for size in ((1, 1), (1, 2), (2, 1), (2, 3), (3, 2), (4, 4), (1, 16), (16, 1)):
            for motion in MOTIONS:
                lay = random_lay(rng, size)
                seen = lay_seen(Paper.flat(size).moved(motion), content_of(lay))
                self.same(self.pure(turned_lay, lay, motion), seen, (lay, motion))
                self.same(turned_lay(seen, motion), lay)
                self.true(is_lay(size, seen))

    def test_spun(self):
        self.same(spun((((1, 0), (0, 0)), ((3, 1), (4, 0)))), (((4, 1), (3, 0)), ((0, 0), (1, 1))))
        self.same(spun((((1, 0),), ((2, 0),), ((0, 0),))), (((0, 0),), ((2, 1),), ((1, 1),)))
        rng = random.Random(17)
        for size in ((1, 1), (1, 4), (3, 2), (4, 4), (1, 16), (16, 1)):
            plate = random_plate(rng, size)
            content = content_of((plate, plate))
            self.same(self.pure(spun, plate), plate_seen(Paper.flat(size).moved("spin"), content), plate)
            self.same(spun(spun(plate)), plate)


if __name__ == "__main__":
    unittest.main()
