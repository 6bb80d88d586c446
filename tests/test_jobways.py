"""Part 9: alike job books, and ways."""

import itertools
import random
import unittest

from foldandbound.errors import BadStep, NoBook, NoFace, NoStep
from foldandbound.jobs import is_job, printed
from foldandbound.jobways import alike_jobs, check_way, needless_steps, parting, way_of, without_step
from foldandbound.sheets import is_plate
from tests.support import (
    MOTIONS, JUNK, PaperShop, ShopCase, corrupted, is_strictly, made_by, random_book, random_job, random_step)

FOLD = ("column", 1, "low", "over")
SHEET = ("sheet", "book", (1, 2))
J = (SHEET, ("print", "book", "p"), ("turn", "book", "turn"), ("print", "book", "q"), ("turn", "book", "turn"),
     ("fold", "book", FOLD))
ONE = (("sheet", "book", (1, 1)),)
PRINTED = ONE + (("print", "book", "p"),)
BAD = ONE + (("turn", "a", "turn"),)
NO_BOOK = (("sheet", "a", (1, 1)),)


def with_motions(job, *motions):
    return job + tuple(("turn", "book", motion) for motion in motions)


def told_way(job, face):
    """The way of a face, as paper shows it."""
    shop = PaperShop()
    found = []
    for step in job:
        assert shop.do(step)
        lies = {}
        for name, paper in shop.papers.items():
            for row, piles in enumerate(paper.stack()):
                for column, pile in enumerate(piles):
                    for height, layer in enumerate(pile):
                        lies[layer[:3]] = (layer, (name, row, column, height))
        found.append(lies)
    pile = shop.book().stack()[0][0]
    panel = [layer[:3] for layer in pile for _ in range(2)][::-1][face]
    way = []
    for at, lies in enumerate(found):
        if panel in lies and (at == 0 or found[at - 1].get(panel) != lies[panel]):
            way.append((at,) + lies[panel])
    return tuple(way)


class TestAlike(ShopCase):
    """Point 9.1."""

    def parted(self, first, second):
        plates = self.pure(parting, first, second)
        self.same(type(plates), dict)
        for word, plate in plates.items():
            self.assertIs(type(word), str)
            self.true(is_plate((len(plate), len(plate[0])), plate))
        self.assertNotEqual(printed(first, plates), printed(second, plates))

    def test_the_same_job(self):
        self.true(alike_jobs(J, J))
        self.same(parting(J, J), None)

    def test_two_turns(self):
        for first, second in (("turn", "turn"), ("spin", "spin"), ("tumble", "tumble"), ("stay", "stay")):
            self.true(alike_jobs(J, with_motions(J, first, second)))
            self.same(parting(J, with_motions(J, first, second)), None)
        self.true(alike_jobs(with_motions(J, "turn", "tumble"), with_motions(J, "spin")))
        for motion in ("turn", "tumble", "spin"):
            self.false(alike_jobs(J, with_motions(J, motion)))
            self.parted(J, with_motions(J, motion))
            self.parted(with_motions(J, motion), J)

    def test_a_cut_and_a_lay_for_a_fold(self):
        folded = J[:5] + (("fold", "book", ("column", 1, "high", "over")),)
        cut = J[:5] + (("cut", "book", "column", 1, "a"), ("turn", "a", "turn"), ("lay", "book", "a"))
        self.true(alike_jobs(folded, cut))
        self.same(parting(folded, cut), None)
        not_turned = J[:5] + (("cut", "book", "column", 1, "a"), ("lay", "book", "a"))
        self.false(alike_jobs(folded, not_turned))
        self.parted(folded, not_turned)

    def test_differences(self):
        pairs = [
            # Another number of faces, also if all of them are blank.
            (ONE, ONE + (("sheet", "a", (1, 1)), ("lay", "book", "a"))), (J, ONE), (J, PRINTED),
            # Printed or not.
            (ONE, PRINTED), (PRINTED, ONE),
            # Another side, another plate, another flip.
            (PRINTED, with_motions(PRINTED, "turn")), (PRINTED, ONE + (("print", "book", "q"),)),
            (PRINTED, with_motions(PRINTED, "spin")), (PRINTED, with_motions(PRINTED, "tumble")),
            # Another panel of the plate.
            ((SHEET, ("print", "book", "p"), ("cut", "book", "column", 1, "a")),
             (("sheet", "a", (1, 2)), ("print", "a", "p"), ("cut", "a", "column", 1, "book"))),
            (J, J[:5] + (("fold", "book", ("column", 1, "high", "over")),)),
        ]
        for first, second in pairs:
            self.false(alike_jobs(first, second), (first, second))
            self.false(alike_jobs(second, first), (first, second))
            self.parted(first, second)
            self.parted(second, first)

    def test_what_is_printed_on_a_sheet_that_was_turned(self):
        # It is read upright again, since the plate and the sheet were turned together.
        turned = ONE + (("turn", "book", "spin"), ("print", "book", "p"))
        self.true(alike_jobs(PRINTED, turned))
        self.false(alike_jobs(PRINTED, with_motions(turned, "spin")))
        self.same(parting(PRINTED, turned), None)

    def test_all_pairs_of_small_job_books(self):
        rng = random.Random(91)
        jobs = [ONE, PRINTED, J] + [random_book(rng, sheets=2, plates=("p", "q")) for _ in range(30)]
        for motions in itertools.product(MOTIONS, repeat=2):
            jobs.append(with_motions(PRINTED, *motions))
        for first in jobs:
            for second in jobs:
                wanted = made_by(first) == made_by(second)
                self.same(alike_jobs(first, second), wanted, (first, second))
                if wanted:
                    self.same(parting(first, second), None, (first, second))
                else:
                    self.parted(first, second)

    def test_errors(self):
        other = ONE + (("fold", "book", FOLD),)
        for function in (alike_jobs, parting):
            self.fails(BadStep, function, BAD, ONE, step=1)
            self.fails(BadStep, function, ONE, BAD, step=1)
            self.fails(NoBook, function, NO_BOOK, ONE)
            self.fails(NoBook, function, ONE, NO_BOOK)
            self.fails(NoBook, function, (), ())
            # The first job book comes first.
            self.fails(BadStep, function, J + J[:1], other, step=6)
            self.fails(BadStep, function, other, J + J[:1], step=1)
            self.fails(NoBook, function, NO_BOOK, BAD)
            self.fails(BadStep, function, BAD, NO_BOOK, step=1)

    def test_pure(self):
        self.true(self.pure(alike_jobs, J, J))
        self.false(self.pure(alike_jobs, J, PRINTED))


class TestSteps(ShopCase):
    """Point 9.2."""

    def test_without_step(self):
        for k in range(len(J)):
            self.same(self.pure(without_step, J, k), tuple(step for at, step in enumerate(J) if at != k))
        self.same(without_step(ONE, 0), ())
        # It need not be one that can be done.
        self.same(without_step(BAD, 0), BAD[1:])

    def test_no_such_step(self):
        for job, k in ((J, 6), (J, 7), (J, -1), (J, -6), (J, 9999), ((), 0), ((), -1), ((), 1), (ONE, 1), (ONE, -1)):
            self.fails(NoStep, without_step, job, k)

    def test_needless_steps(self):
        self.same(needless_steps(J), [])
        self.same(needless_steps(ONE), [])
        self.same(needless_steps(PRINTED), [])
        self.same(needless_steps(with_motions(J, "stay")), [6])
        self.same(needless_steps(with_motions(J, "turn", "turn")), [])
        self.same(needless_steps(with_motions(J, "stay", "turn", "stay", "turn")), [6, 8])
        self.same(needless_steps(with_motions(ONE, "turn", "spin")), [1, 2])
        self.same(needless_steps(J + (("sheet", "a", (1, 1)), ("print", "a", "p"))), [7])
        self.same(needless_steps(J + (("sheet", "a", (1, 1)), ("sheet", "b", (1, 1)))), [6, 7])
        # Without the first sheet, the second one has another number: that does not count.
        self.same(needless_steps((("sheet", "a", (1, 1)),) + PRINTED), [0])
        # Without the cut, the book has two places.
        self.same(needless_steps((SHEET, ("cut", "book", "column", 1, "a"))), [])
        self.same(needless_steps((SHEET, ("fold", "book", FOLD), ("turn", "book", "tumble"))), [2])

    def test_like_paper(self):
        rng = random.Random(92)
        some = 0
        for _ in range(150):
            job = random_book(rng, sheets=2)
            for _ in range(rng.randint(0, 4)):
                at = rng.randint(0, len(job))
                longer = job[:at] + (random_step(rng, names=("book", "a", "x")),) + job[at:]
                if isinstance(made_by(longer), list):
                    job = longer
            made = made_by(job)
            wanted = [k for k in range(len(job)) if made_by(job[:k] + job[k + 1:]) == made]
            some += len(wanted) > 0
            self.same(self.pure(needless_steps, job), wanted, job)
        self.assertGreater(some, 40)

    def test_errors(self):
        self.fails(BadStep, needless_steps, BAD, step=1)
        self.fails(BadStep, needless_steps, J + J, step=6)
        self.fails(NoBook, needless_steps, NO_BOOK)
        self.fails(NoBook, needless_steps, ())
        self.fails(NoBook, needless_steps, (SHEET,))
        # It would make something without its last step.
        self.fails(BadStep, needless_steps, J + (("turn", "a", "stay"),), step=6)


class TestWays(ShopCase):
    """Point 9.3."""

    def test_the_job_of_the_document(self):
        first = (
            (0, (0, 0, 0, 0, 0), ("book", 0, 0, 0)), (2, (0, 0, 0, 1, 0), ("book", 0, 1, 0)),
            (4, (0, 0, 0, 0, 0), ("book", 0, 0, 0)), (5, (0, 0, 0, 1, 0), ("book", 0, 0, 1)))
        second = (
            (0, (0, 0, 1, 0, 0), ("book", 0, 1, 0)), (2, (0, 0, 1, 1, 0), ("book", 0, 0, 0)),
            (4, (0, 0, 1, 0, 0), ("book", 0, 1, 0)), (5, (0, 0, 1, 0, 0), ("book", 0, 0, 0)))
        self.same([way_of(J, face) for face in range(4)], [first, first, second, second])

    def test_steps_that_move_nothing(self):
        job = PRINTED + (("turn", "book", "stay"), ("sheet", "a", (1, 1)), ("turn", "a", "turn"), ("lay", "book", "a"))
        self.same(way_of(job, 3), ((0, (0, 0, 0, 0, 0), ("book", 0, 0, 0)),))
        self.same(way_of(job, 0), (
            (3, (1, 0, 0, 0, 0), ("a", 0, 0, 0)), (4, (1, 0, 0, 1, 0), ("a", 0, 0, 0)),
            (5, (1, 0, 0, 1, 0), ("book", 0, 0, 1))))

    def test_cut_parts(self):
        job = (("sheet", "a", (2, 2)), ("cut", "a", "row", 1, "b"), ("cut", "b", "column", 1, "book"))
        self.same(way_of(job, 1), (
            (0, (0, 1, 1, 0, 0), ("a", 1, 1, 0)), (1, (0, 1, 1, 0, 0), ("b", 0, 1, 0)),
            (2, (0, 1, 1, 0, 0), ("book", 0, 0, 0))))

    def test_layers_that_are_counted_anew(self):
        job = (("sheet", "book", (1, 3)), ("fold", "book", FOLD), ("fold", "book", ("column", 1, "high", "under")))
        self.same([way_of(job, 2 * at) for at in range(3)], [told_way(job, 2 * at) for at in range(3)])
        # The fold does not turn panel 1, but it comes to lie in the first column.
        self.same(way_of(job, 2), (
            (0, (0, 0, 1, 0, 0), ("book", 0, 1, 0)), (1, (0, 0, 1, 0, 0), ("book", 0, 0, 0)),
            (2, (0, 0, 1, 0, 0), ("book", 0, 0, 1))))

    def test_like_paper(self):
        rng = random.Random(93)
        for _ in range(120):
            job = random_book(rng)
            many = len(made_by(job))
            for face in range(many):
                way = self.pure(way_of, job, face)
                self.same(way, told_way(job, face), (job, face))
                self.true(self.pure(check_way, job, face, way))
                self.same(job[way[0][0]][0], "sheet")
            for face in (many, -1):
                self.fails(NoFace, way_of, job, face)
                self.fails(NoFace, check_way, job, face, None)

    def test_faces_that_are_not_there(self):
        for face in (4, 5, 9999, -1, -2, -4, -5):
            self.fails(NoFace, way_of, J, face)
            self.fails(NoFace, check_way, J, face, way_of(J, 0))
            self.fails(NoFace, check_way, J, face, ())
        self.same(len(way_of(J, 3)), 4)

    def test_check_way(self):
        ways = [way_of(J, face) for face in range(4)]
        for face in range(4):
            for other in range(4):
                self.same(check_way(J, face, ways[other]), ways[face] == ways[other])
        way = ways[0]
        for value in (way[1:], way[:-1], way + way[-1:], way[::-1], (), (way,), list(way), [], None, True, "way", 0,
                      way[:1], {0: way}, (1,) * 4, ((0, 0, 0),) * 4):
            self.false(check_way(J, 0, value), value)
        for value in JUNK:
            self.false(check_way(J, 0, value), value)

    def test_check_way_is_strict(self):
        for job, face in ((J, 0), (J, 2), (PRINTED, 1)):
            way = way_of(job, face)
            self.true(check_way(job, face, way))
            for value in corrupted(way):
                self.false(check_way(job, face, value), value)
            for at, (step, layer, place) in enumerate(way):
                for triple in ((step + 1, layer, place), (step, layer[:4] + (1 - layer[4],), place),
                               (step, layer, place[:3] + (7,)), (step, layer, ("a",) + place[1:]),
                               (step, (1,) + layer[1:], place), (step, place, layer), (step, layer),
                               (step, layer, place, 0), (step, list(layer), place), (True, layer, place)):
                    value = way[:at] + (triple,) + way[at + 1:]
                    self.same(check_way(job, face, value), is_strictly(value, way), value)

    def test_errors(self):
        for face in (0, 1):
            self.fails(BadStep, way_of, BAD, face, step=1)
            self.fails(BadStep, check_way, BAD, face, (), step=1)
            self.fails(NoBook, way_of, NO_BOOK, face)
            self.fails(NoBook, check_way, NO_BOOK, face, ())
            self.fails(NoBook, way_of, (), face)


class TestSoon(ShopCase):
    """Point 0.2: job books of 40 steps and 8 sheets."""

    def test_large_job_books(self):
        names = ["book", "a", "b", "c", "d", "e", "f", "g"]
        job = []
        for name in names:
            job += [("sheet", name, (4, 4)), ("print", name, "p" + name), ("turn", name, "turn")]
        for other in names[1:]:
            job.append(("lay", "book", other))
        for fold in (("column", 2, "low", "over"), ("column", 1, "high", "under"), ("row", 2, "low", "over"),
                     ("row", 1, "low", "over")):
            job.append(("fold", "book", fold))
        job = with_motions(tuple(job), "turn", "tumble", "spin", "stay", "stay")
        self.assertEqual(len(job), 40)
        self.true(is_job(job))
        self.same(needless_steps(job), [38, 39])
        self.true(alike_jobs(job, job))
        self.true(isinstance(parting(job, job[:36]), dict))
        for face in (0, 100, 255):
            self.true(check_way(job, face, way_of(job, face)))
        self.same(way_of(job, 255), told_way(job, 255))

    def test_random_job_books(self):
        rng = random.Random(94)
        for _ in range(20):
            job = random_job(rng, 40)
            wanted = made_by(job)
            if isinstance(wanted, list):
                made = [k for k in range(len(job)) if made_by(job[:k] + job[k + 1:]) == wanted]
                self.same(needless_steps(job), made)
            elif wanted == "NoBook":
                self.fails(NoBook, needless_steps, job)
            else:
                self.fails(BadStep, needless_steps, job, step=wanted)


if __name__ == "__main__":
    unittest.main()
