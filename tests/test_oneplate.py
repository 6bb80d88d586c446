"""Part 7: one plate on both sides."""

import random
import unittest

from foldandbound.errors import OddSheet
from foldandbound.jobs import printed
from foldandbound.oneplate import both_sides, halves, one_plate, plate_for
from foldandbound.reading import reading
from foldandbound.folding import all_folded
from foldandbound.sheets import is_lay, is_plate, turned_lay
from tests.support import Paper, ShopCase, lay_seen, random_folds, random_lay, random_plate, small_sizes

PLATE = (((1, 0), (2, 1)), ((3, 0), (0, 0)))


def content_after(plate, motion):
    """What is printed on each panel side after the plate was printed before and after a motion."""
    content = {}
    size = (len(plate), len(plate[0]))
    for paper in (Paper.flat(size), Paper.flat(size).moved(motion)):
        for (y, x), (side, flip) in paper.top().items():
            assert side not in content
            page, printed_flip = plate[y][x]
            content[side] = (page, printed_flip ^ flip if page else 0)
    return content


class TestBothSides(ShopCase):
    """Point 7.1."""

    def test_one_plate_of_four(self):
        self.same(both_sides(PLATE, "turn"), (PLATE, PLATE))
        self.same(both_sides(PLATE, "tumble"), (PLATE, (((0, 0), (3, 1)), ((2, 0), (1, 1)))))

    def test_like_paper(self):
        rng = random.Random(71)
        for size in small_sizes(16):
            for motion in ("turn", "tumble"):
                plate = random_plate(rng, size)
                lay = self.pure(both_sides, plate, motion)
                self.same(lay, lay_seen(Paper.flat(size), content_after(plate, motion)), (plate, motion))
                self.true(is_lay(size, lay))

    def test_like_a_job_book(self):
        rng = random.Random(72)
        for _ in range(100):
            size = rng.choice(small_sizes(8))
            motion = rng.choice(("turn", "tumble"))
            plate = random_plate(rng, size)
            folds = random_folds(rng, size)
            job = (("sheet", "book", size),) + (("print", "book", "p"), ("turn", "book", motion)) * 2
            job += tuple(("fold", "book", fold) for fold in folds)
            pile = all_folded(size, folds)[0][0]
            self.same(printed(job, {"p": plate}), reading({0: both_sides(plate, motion)}, pile))


class TestHalves(ShopCase):
    """Point 7.2."""

    def test_one_plate_of_four(self):
        self.same(halves(PLATE, "turn"), (
            ((((1, 0),), ((3, 0),)), (((2, 1),), ((0, 0),))),
            ((((2, 1),), ((0, 0),)), (((1, 0),), ((3, 0),))),
        ))
        self.same(halves(PLATE, "tumble"), (
            ((((1, 0), (2, 1)),), (((0, 0), (3, 1)),)),
            ((((3, 0), (0, 0)),), (((2, 0), (1, 1)),)),
        ))

    def test_like_paper(self):
        rng = random.Random(73)
        for size in small_sizes(16):
            for motion, axis, many in (("turn", "column", size[1]), ("tumble", "row", size[0])):
                plate = random_plate(rng, size)
                if many % 2 == 1:
                    self.fails(OddSheet, halves, plate, motion)
                    continue
                content = content_after(plate, motion)
                low, high = Paper.flat(size).cut(axis, many // 2)
                wanted = (lay_seen(low, content), lay_seen(high, content))
                self.same(self.pure(halves, plate, motion), wanted, (plate, motion))
                # Both halves are the same but for being turned by the motion.
                self.same(turned_lay(wanted[0], motion), wanted[1])

    def test_odd_sheets(self):
        face = (1, 0)
        self.fails(OddSheet, halves, ((face,),), "turn")
        self.fails(OddSheet, halves, ((face,),), "tumble")
        self.fails(OddSheet, halves, ((face, face, face),) * 2, "turn")
        self.fails(OddSheet, halves, ((face, face),) * 3, "tumble")
        self.same(len(halves(((face, face, face),) * 2, "tumble")), 2)
        self.same(len(halves(((face, face),) * 3, "turn")), 2)


class TestPlateFor(ShopCase):
    """Point 7.3."""

    def test_one_panel(self):
        lay = ((((1, 0),),), (((2, 1),),))
        self.same(plate_for(lay, "turn"), (((1, 0), (2, 1)),))
        self.same(plate_for(lay, "tumble"), (((1, 0),), ((2, 0),)))
        self.same(plate_for(((((1, 0), (3, 0)),), (((2, 0), (0, 0)),)), "tumble"),
                  (((1, 0), (3, 0)), ((0, 0), (2, 1))))

    def test_the_half_has_the_lay(self):
        rng = random.Random(74)
        for size in small_sizes(8):
            for motion in ("turn", "tumble"):
                lay = random_lay(rng, size)
                plate = self.pure(plate_for, lay, motion)
                rows, columns = size
                whole = (rows, 2 * columns) if motion == "turn" else (2 * rows, columns)
                self.true(is_plate(whole, plate))
                self.same(halves(plate, motion), (lay, turned_lay(lay, motion)))
                self.same(plate_for(halves(plate, motion)[0], motion), plate)

    def test_one_plate(self):
        rng = random.Random(75)
        for size in small_sizes(9):
            for motion in ("turn", "tumble"):
                plate = random_plate(rng, size)
                lay = both_sides(plate, motion)
                self.true(self.pure(one_plate, lay, motion), lay)
                for other in (random_lay(rng, size), (lay[0], random_plate(rng, size)), turned_lay(lay, "spin"),
                              turned_lay(lay, "turn"), turned_lay(lay, "tumble")):
                    # The only plate that gives the front is the front.
                    wanted = lay_seen(Paper.flat(size), content_after(other[0], motion)) == other
                    self.same(one_plate(other, motion), wanted, (other, motion))

    def test_one_plate_by_hand(self):
        self.true(one_plate(((((1, 0), (2, 0)),), (((1, 0), (2, 0)),)), "turn"))
        self.false(one_plate(((((1, 0), (2, 0)),), (((2, 0), (1, 0)),)), "turn"))
        self.false(one_plate(((((1, 0), (2, 0)),), (((1, 0), (2, 0)),)), "tumble"))
        self.true(one_plate(((((1, 0), (2, 0)),), (((2, 1), (1, 1)),)), "tumble"))
        self.false(one_plate(((((1, 0), (2, 0)),), (((2, 0), (1, 0)),)), "tumble"))
        self.false(one_plate(((((1, 0), (2, 0)),), (((1, 1), (2, 0)),)), "turn"))
        self.true(one_plate(((((1, 0),),), (((1, 0),),)), "turn"))
        self.true(one_plate(((((1, 0),),), (((1, 1),),)), "tumble"))
        self.true(one_plate(((((0, 0),),), (((0, 0),),)), "tumble"))


if __name__ == "__main__":
    unittest.main()
