"""Part 8: job books."""

import random
import unittest

from foldandbound.errors import BadStep, NoBook
from foldandbound.jobs import is_job, makes, plates_of, printed, run_job
from foldandbound.oneplate import both_sides
from foldandbound.reading import is_right, laying, reading
from foldandbound.sheets import is_plate
from tests.support import (
    ShopCase, made_by, random_book, random_folds, random_job, random_plate, random_plates, random_step, shop_after,
    small_sizes)

FOLD = ("column", 1, "low", "over")
SHEET = ("sheet", "book", (1, 2))
J = (SHEET, ("print", "book", "p"), ("turn", "book", "turn"), ("print", "book", "q"), ("turn", "book", "turn"),
     ("fold", "book", FOLD))
ALL_STEPS = (
    ("sheet", "book", (2, 2)), ("print", "book", "p"), ("turn", "book", "tumble"),
    ("fold", "book", ("row", 1, "high", "under")), ("cut", "book", "column", 1, "half"), ("lay", "book", "half"))


def both_printed(size, folds, motion="turn", second="q"):
    """The job book that prints front and back, turns the sheet back and folds it."""
    steps = (("sheet", "book", size), ("print", "book", "p"), ("turn", "book", motion), ("print", "book", second),
             ("turn", "book", motion))
    return steps + tuple(("fold", "book", fold) for fold in folds)


class TestIsJob(ShopCase):
    """Point 8.1."""

    def test_good_jobs(self):
        self.true(is_job(()))
        self.true(is_job(J))
        self.true(is_job(ALL_STEPS))
        for step in ALL_STEPS:
            self.true(is_job((step,)), step)
        for motion in ("stay", "turn", "tumble", "spin"):
            self.true(is_job((("turn", "a", motion),)))
        for line in (1, 2, 62, 63):
            self.true(is_job((("fold", "a", ("row", line, "low", "over")),)))
            self.true(is_job((("cut", "a", "row", line, "b"),)))
        # Whether the steps can be done does not count.
        self.true(is_job((("lay", "a", "a"), ("cut", "a", "column", 63, "a"))))

    def test_numbers_of_steps(self):
        for many in (0, 1, 40, 59, 60, 61, 62, 100):
            self.same(is_job((("turn", "a", "stay"),) * many), many <= 60, many)
            self.same(is_job(ALL_STEPS[:1] * many), many <= 60, many)

    def test_words(self):
        for word in ("a", "z", "book", "abcdefghijkl", "lay", "zzzzzzzzzzzz"):
            self.true(is_job((("print", word, "p"), ("print", "p", word), ("lay", word, word))), word)
            self.true(is_job((("sheet", word, (1, 1)), ("turn", word, "turn"), ("fold", word, FOLD))), word)
            self.true(is_job((("cut", word, "row", 1, word),)), word)
        for word in ("", "abcdefghijklm", "A", "aB", "a1", "1", "a b", " ", "a ", "a_", "a-b", "\u00e9", "\u00df",
                     "a\n", "`", "{", None, 1, True, b"a", ("a",), ["a"], {}, 0.5):
            for step in (("print", word, "p"), ("print", "p", word), ("lay", word, "a"), ("lay", "a", word),
                         ("sheet", word, (1, 1)), ("turn", word, "turn"), ("fold", word, FOLD),
                         ("cut", word, "row", 1, "a"), ("cut", "a", "row", 1, word)):
                self.false(is_job((step,)), step)

    def test_wrong_steps(self):
        wrong = [
            (), ("sheet",), ("sheet", "a"), ("sheet", "a", (1, 1), 0), ("sheet", "a", (0, 1)), ("sheet", "a", (1, 17)),
            ("sheet", "a", (5, 13)), ("sheet", "a", "turn"), ("sheet", "a", None), ("sheet", "a", [1, 1]),
            ("print", "a"), ("print", "a", "p", "q"), ("print", "a", (((1, 0),),)), ("print",),
            ("turn", "a"), ("turn", "a", "flip"), ("turn", "a", "turn", "turn"), ("turn", "a", ""), ("turn", "a", []),
            ("turn", "a", "a"), ("turn", "a", None), ("turn", "a", {}), ("turn", "a", 1), ("turn", "a", ("turn",)),
            ("fold", "a"), ("fold", "a", FOLD, FOLD), ("fold", "a", ("column", 0, "low", "over")),
            ("fold", "a", ("column", 64, "low", "over")), ("fold", "a", ("low", 1, "column", "over")),
            ("fold", "a", "column", 1, "low", "over"), ("fold", "a", list(FOLD)), ("fold", "a", ()),
            ("cut", "a", "column", 1), ("cut", "a", "column", 1, "b", "c"), ("cut", "a", "column", 0, "b"),
            ("cut", "a", "column", 64, "b"), ("cut", "a", "x", 1, "b"), ("cut", "a", 1, "column", "b"),
            ("cut", "a", "column", True, "b"), ("cut", "a", "column", "1", "b"), ("cut", "a", [], 1, "b"),
            ("lay", "a"), ("lay", "a", "b", "c"), ("lay",), ("stay", "a", "b"), ("book", "a", "b"), ("", "a", "b"),
            ("Sheet", "a", (1, 1)), ([], "a", "b"), ({}, "a", "b"), (None, "a", "b"), (1, "a", "b"), (True, "a", "b"),
            ["lay", "a", "b"], "lay", "lay a b", None, 1, (("lay",), "a", "b"), (b"lay", "a", "b"),
            ("sheet", "a", (True, 1)), ("sheet", "a", (1, True)),
        ]
        for step in wrong:
            self.false(is_job((step,)), step)
            self.false(is_job(J + (step,)), step)
            self.false(is_job((step,) + J), step)

    def test_wrong_values(self):
        self.refuses_junk(is_job, ())
        self.refuses_corrupted(is_job, J)
        self.refuses_corrupted(is_job, ALL_STEPS)
        for value in (list(J), J[0], J[5], "", "sheet book 1x2", {0: J[0]}, (J,), [J]):
            self.false(is_job(value), value)


class TestRunJob(ShopCase):
    """Point 8.2."""

    def test_no_steps(self):
        self.same(self.pure(run_job, ()), ({}, {}))

    def test_the_job_of_the_document(self):
        stacks, prints = run_job(J)
        self.same(stacks, {"book": ((((0, 0, 1, 0, 0), (0, 0, 0, 1, 0)),),)})
        self.same(prints, {
            (0, 0, 0, "front"): ("p", (0, 0), 0), (0, 0, 1, "front"): ("p", (0, 1), 0),
            (0, 0, 0, "back"): ("q", (0, 1), 0), (0, 0, 1, "back"): ("q", (0, 0), 0)})

    def test_what_stands_upside_down(self):
        wanted = {"stay": ("front", (0, 0), (0, 1), 0), "turn": ("back", (0, 1), (0, 0), 0),
                  "tumble": ("back", (0, 0), (0, 1), 1), "spin": ("front", (0, 1), (0, 0), 1)}
        for motion, (side, first, second, spin) in wanted.items():
            _, prints = run_job((SHEET, ("turn", "book", motion), ("print", "book", "p")))
            self.same(prints, {(0, 0, 0, side): ("p", first, spin), (0, 0, 1, side): ("p", second, spin)}, motion)

    def test_numbers_of_sheets(self):
        stacks, prints = run_job((("sheet", "b", (1, 1)), ("sheet", "a", (1, 1)), ("print", "a", "p"),
                                  ("lay", "b", "a"), ("sheet", "a", (1, 1))))
        self.same(stacks, {"b": ((((0, 0, 0, 0, 0), (1, 0, 0, 0, 0)),),), "a": ((((2, 0, 0, 0, 0),),),)})
        self.same(prints, {(1, 0, 0, "front"): ("p", (0, 0), 0)})

    def test_cut_and_lay(self):
        stacks, prints = run_job((("sheet", "a", (1, 3)), ("cut", "a", "column", 1, "b")))
        self.same(stacks, {"a": ((((0, 0, 0, 0, 0),),),), "b": ((((0, 0, 1, 0, 0),), ((0, 0, 2, 0, 0),)),)})
        self.same(prints, {})
        stacks, _ = run_job((("sheet", "a", (3, 1)), ("cut", "a", "row", 2, "b")))
        self.same(stacks, {"a": ((((0, 0, 0, 0, 0),),), (((0, 1, 0, 0, 0),),)), "b": ((((0, 2, 0, 0, 0),),),)})
        stacks, _ = run_job((("sheet", "a", (1, 2)), ("cut", "a", "column", 1, "b"), ("lay", "a", "b")))
        self.same(stacks, {"a": ((((0, 0, 0, 0, 0), (0, 0, 1, 0, 0)),),)})
        stacks, _ = run_job((("sheet", "a", (1, 2)), ("cut", "a", "column", 1, "b"), ("lay", "b", "a")))
        self.same(stacks, {"b": ((((0, 0, 1, 0, 0), (0, 0, 0, 0, 0)),),)})

    def test_each_reason_and_its_step(self):
        bad_fold, bad_row = ("column", 2, "low", "over"), ("row", 1, "low", "over")
        turned = ("turn", "book", "turn")
        two = (SHEET, ("sheet", "a", (1, 1)))
        cases = [
            # A stack that is needed is not there.
            ((("print", "book", "p"),), 0), ((("turn", "book", "turn"),), 0), ((("fold", "book", FOLD),), 0),
            ((("cut", "book", "column", 1, "a"),), 0), ((("lay", "book", "a"),), 0), ((SHEET, ("lay", "book", "a")), 1),
            ((SHEET, ("lay", "a", "book")), 1), ((SHEET, ("turn", "a", "stay")), 1), ((SHEET, ("print", "p", "p")), 1),
            ((SHEET, ("fold", "a", FOLD)), 1), ((SHEET, ("cut", "a", "column", 1, "b")), 1),
            # After it was laid on another one, it is not there any longer.
            ((SHEET, ("sheet", "a", (1, 2)), ("lay", "book", "a"), ("turn", "a", "turn")), 3),
            ((SHEET, ("sheet", "a", (1, 2)), ("lay", "book", "a"), ("lay", "book", "a")), 3),
            # A name is given that is there.
            ((SHEET, SHEET), 1), ((SHEET, ("sheet", "book", (2, 2))), 1),
            ((SHEET, ("cut", "book", "column", 1, "book")), 1), (two + (("cut", "book", "column", 1, "a"),), 2),
            # Printed is what is not flat, or on a side that was printed on.
            ((SHEET, ("fold", "book", FOLD), ("print", "book", "p")), 2),
            ((("sheet", "book", (1, 3)), ("fold", "book", FOLD), ("print", "book", "p")), 2),
            ((("sheet", "book", (1, 3)), ("fold", "book", bad_fold), ("print", "book", "p")), 2),
            ((SHEET, ("sheet", "a", (1, 2)), ("lay", "book", "a"), ("print", "book", "p")), 3),
            ((SHEET, ("print", "book", "p"), ("print", "book", "q")), 2),
            ((SHEET, ("print", "book", "p"), ("turn", "book", "spin"), ("print", "book", "q")), 3),
            ((SHEET, turned, ("print", "book", "p"), turned, ("print", "book", "p"), turned, ("print", "book", "r")),
             6),
            ((SHEET, ("print", "book", "p"), ("cut", "book", "column", 1, "a"), ("print", "a", "q")), 3),
            # The part that was cut off lies flat, but not the other one.
            ((("sheet", "book", (1, 3)), ("fold", "book", FOLD), ("cut", "book", "column", 1, "a"), ("print", "a", "p"),
              turned, ("print", "book", "p")), 5),
            # There is no such line.
            ((SHEET, ("fold", "book", bad_fold)), 1), ((SHEET, ("fold", "book", bad_row)), 1),
            ((SHEET, ("fold", "book", FOLD), ("fold", "book", FOLD)), 2),
            ((SHEET, ("cut", "book", "column", 2, "a")), 1), ((SHEET, ("cut", "book", "row", 1, "a")), 1),
            ((SHEET, ("cut", "book", "column", 63, "a")), 1),
            # Both names are the same, or the stacks have not the same numbers.
            ((SHEET, ("lay", "book", "book")), 1),
            (two + (("lay", "book", "a"),), 2), (two + (("lay", "a", "book"),), 2),
            ((SHEET, ("sheet", "a", (2, 1)), ("lay", "a", "book")), 2),
            ((SHEET, ("sheet", "a", (2, 2)), ("lay", "book", "a")), 2),
            ((("sheet", "a", (2, 3)), ("sheet", "book", (3, 2)), ("lay", "book", "a")), 2),
            ((("sheet", "a", (2, 3)), ("sheet", "book", (2, 2)), ("lay", "book", "a")), 2),
            # The first one of several is told.
            ((SHEET, ("fold", "a", FOLD), SHEET, ("fold", "book", bad_row)), 1),
            ((SHEET, ("print", "book", "p"), ("print", "book", "p"), ("fold", "book", bad_row)), 2),
            ((SHEET, ("print", "book", "p"), ("fold", "book", bad_row), ("print", "book", "p")), 2),
        ]
        for job, step in cases:
            self.true(is_job(job), job)
            self.same(shop_after(job)[1], step, job)
            for function, more in ((run_job, ()), (makes, ()), (printed, ({},)), (plates_of, (0,))):
                self.fails(BadStep, function, job, *more, step=step)
            self.same(len(run_job(job[:step])), 2)

    def test_what_can_be_done(self):
        # A name may be used anew after its stack was laid on another one; a cut part may be printed.
        job = (("sheet", "a", (1, 1)), ("sheet", "b", (1, 1)), ("lay", "a", "b"), ("sheet", "b", (1, 2)),
               ("cut", "b", "column", 1, "c"), ("print", "c", "p"), ("print", "b", "p"), ("turn", "b", "tumble"),
               ("print", "b", "q"))
        self.same(run_job(job)[1], {
            (2, 0, 1, "front"): ("p", (0, 0), 0), (2, 0, 0, "front"): ("p", (0, 0), 0),
            (2, 0, 0, "back"): ("q", (0, 0), 1)})
        # A place with one layer may be printed after it was cut off what was folded.
        job = (("sheet", "a", (1, 3)), ("fold", "a", ("column", 2, "low", "over")), ("cut", "a", "column", 1, "b"),
               ("print", "b", "p"))
        self.same(run_job(job)[1], {(0, 0, 0, "back"): ("p", (0, 0), 0)})

    def test_like_paper(self):
        rng = random.Random(81)
        bad = 0
        for _ in range(400):
            job = random_job(rng, rng.randint(1, 14))
            if rng.random() < 0.3:
                at = rng.randint(0, len(job))
                job = job[:at] + (random_step(rng),) + job[at:]
            shop, step = shop_after(job)
            if step is None:
                stacks = {name: paper.stack() for name, paper in shop.papers.items()}
                self.same(self.pure(run_job, job), (stacks, shop.prints), job)
            else:
                bad += 1
                self.fails(BadStep, run_job, job, step=step)
        self.assertGreater(bad, 30)


class TestMakes(ShopCase):
    """Point 8.3."""

    def test_the_job_of_the_document(self):
        self.same(self.pure(makes, J), [("q", 0, 1, 0), ("p", 0, 0, 0), ("p", 0, 1, 0), ("q", 0, 0, 0)])

    def test_sides_that_were_not_printed(self):
        self.same(makes((("sheet", "book", (1, 1)),)), [None, None])
        self.same(makes((("sheet", "book", (1, 1)), ("print", "book", "p"))), [("p", 0, 0, 0), None])
        self.same(makes((("sheet", "book", (1, 1)), ("turn", "book", "turn"), ("print", "book", "p"),
                         ("turn", "book", "turn"))), [None, ("p", 0, 0, 0)])

    def test_flips(self):
        for before, after, flip in (("stay", "stay", 0), ("stay", "spin", 1), ("spin", "stay", 0), ("spin", "spin", 1),
                                    ("tumble", "stay", 0), ("tumble", "tumble", 1), ("turn", "turn", 0)):
            job = (("sheet", "book", (1, 1)), ("turn", "book", before), ("print", "book", "p"), ("turn", "book", after))
            self.same([made for made in makes(job) if made is not None], [("p", 0, 0, flip)], (before, after))

    def test_no_book(self):
        for job in ((), (("sheet", "a", (1, 1)),), (SHEET,), (("sheet", "book", (2, 1)),), (("sheet", "book", (2, 2)),),
                    J[:5], (("sheet", "book", (2, 2)), ("fold", "book", FOLD)), (("sheet", "books", (1, 1)),),
                    (("sheet", "book", (1, 1)), ("sheet", "a", (1, 1)), ("lay", "a", "book"))):
            for function, more in ((makes, ()), (printed, ({},)), (plates_of, (0,)), (plates_of, (9999,))):
                self.fails(NoBook, function, job, *more)

    def test_a_bad_step_comes_first(self):
        job = (("sheet", "a", (1, 1)), ("turn", "book", "turn"))
        for function, more in ((makes, ()), (printed, ({},)), (plates_of, (0,))):
            self.fails(BadStep, function, job, *more, step=1)

    def test_like_paper(self):
        rng = random.Random(82)
        books = 0
        for _ in range(400):
            job = random_book(rng) if rng.random() < 0.7 else random_job(rng, rng.randint(1, 14))
            wanted = made_by(job)
            if wanted == "NoBook":
                self.fails(NoBook, makes, job)
            elif isinstance(wanted, int):
                self.fails(BadStep, makes, job, step=wanted)
            else:
                books += 1
                self.same(self.pure(makes, job), wanted, job)
        self.assertGreater(books, 250)


def faces_with(made, plates):
    """The faces that are read, with some plates."""
    found = []
    for side in made:
        face = (0, 0)
        if side is not None and side[0] in plates:
            word, row, column, flip = side
            if row < len(plates[word]) and column < len(plates[word][0]):
                page, printed_flip = plates[word][row][column]
                face = (page, printed_flip ^ flip if page else 0)
        found.append(face)
    return found


def wanted_plates(made, n):
    """The one dict of plates for which the book has the right reading, or None."""
    faces = {}
    for at in range(max(n, len(made))):
        side = made[at] if at < len(made) else None
        if side is None:
            if at < n:
                return None
        else:
            face = (at + 1, side[3]) if at < n else (0, 0)
            if faces.setdefault(side[:3], face) != face:
                return None
    plates = {}
    for word in {side[0] for side in faces}:
        rows = max(row for other, row, column in faces if other == word) + 1
        columns = max(column for other, row, column in faces if other == word) + 1
        plates[word] = tuple(tuple(faces.get((word, r, c), (0, 0)) for c in range(columns)) for r in range(rows))
    return plates


class TestPrinted(ShopCase):
    """Point 8.4."""

    def test_the_job_of_the_document(self):
        plates = {"p": (((2, 0), (3, 0)),), "q": (((4, 0), (1, 0)),)}
        self.same(self.pure(printed, J, plates), [(1, 0), (2, 0), (3, 0), (4, 0)])
        self.same(printed(J, {"p": (((2, 1), (0, 0)),), "q": (((4, 1), (1, 1)),)}), [(1, 1), (2, 1), (0, 0), (4, 1)])

    def test_plates_that_are_missing_or_too_small(self):
        self.same(printed(J, {}), [(0, 0)] * 4)
        self.same(printed(J, {"p": (((2, 0), (3, 0)),)}), [(0, 0), (2, 0), (3, 0), (0, 0)])
        self.same(printed(J, {"p": (((2, 0),),), "q": (((4, 0),),)}), [(0, 0), (2, 0), (0, 0), (4, 0)])
        self.same(printed(J, {"p": (((2, 0),), ((3, 0),)), "r": (((5, 0),),)}), [(0, 0), (2, 0), (0, 0), (0, 0)])
        self.same(printed(J, {"p": (((2, 0), (3, 0), (9, 0)),) * 2}), [(0, 0), (2, 0), (3, 0), (0, 0)])

    def test_pages_seen_upside_down(self):
        job = (("sheet", "book", (1, 1)), ("print", "book", "p"), ("turn", "book", "spin"))
        self.same(printed(job, {"p": (((7, 0),),)}), [(7, 1), (0, 0)])
        self.same(printed(job, {"p": (((7, 1),),)}), [(7, 0), (0, 0)])
        self.same(printed(job, {"p": (((0, 0),),)}), [(0, 0), (0, 0)])
        job = (("sheet", "book", (2, 1)), ("print", "book", "p"), ("fold", "book", ("row", 1, "low", "over")))
        self.same(printed(job, {"p": (((3, 0),), ((4, 1),))}), [(0, 0), (3, 1), (4, 1), (0, 0)])

    def test_like_paper(self):
        rng = random.Random(83)
        for _ in range(300):
            job = random_book(rng)
            plates = random_plates(rng)
            self.same(self.pure(printed, job, plates), faces_with(made_by(job), plates), (job, plates))

    def test_one_plate_on_both_sides(self):
        rng = random.Random(84)
        for size in small_sizes(6):
            for motion in ("turn", "tumble"):
                plate = random_plate(rng, size)
                folds = random_folds(rng, size)
                job = both_printed(size, folds, motion, "p")
                pile = run_job(job)[0]["book"][0][0]
                self.same(printed(job, {"p": plate}), reading({0: both_sides(plate, motion)}, pile))


class TestPlatesOf(ShopCase):
    """Point 8.4: the plates for which the book reads right."""

    def test_the_job_of_the_document(self):
        self.same(self.pure(plates_of, J, 4), {"p": (((2, 0), (3, 0)),), "q": (((4, 0), (1, 0)),)})
        self.same(plates_of(J, 3), {"p": (((2, 0), (3, 0)),), "q": (((0, 0), (1, 0)),)})
        self.same(plates_of(J, 0), {"p": (((0, 0), (0, 0)),), "q": (((0, 0), (0, 0)),)})
        self.same(plates_of(J, 5), None)
        self.same(plates_of(J, 9999), None)

    def test_sides_that_were_not_printed(self):
        job = (("sheet", "book", (1, 1)),)
        self.same(plates_of(job, 0), {})
        self.same(plates_of(job, 1), None)
        job = (("sheet", "book", (1, 1)), ("print", "book", "p"))
        self.same([plates_of(job, n) for n in range(4)], [{"p": (((0, 0),),)}, {"p": (((1, 0),),)}, None, None])
        job = (("sheet", "book", (1, 1)), ("turn", "book", "turn"), ("print", "book", "p"), ("turn", "book", "turn"))
        self.same([plates_of(job, n) for n in range(4)], [{"p": (((0, 0),),)}, None, None, None])

    def test_a_plate_that_is_printed_several_times(self):
        job = (("sheet", "book", (1, 1)), ("print", "book", "p"), ("turn", "book", "turn"), ("print", "book", "p"),
               ("turn", "book", "turn"))
        self.same([plates_of(job, n) for n in range(4)], [{"p": (((0, 0),),)}, None, None, None])
        job = (SHEET, ("print", "book", "p"), ("turn", "book", "turn"), ("print", "book", "p"),
               ("cut", "book", "column", 1, "a"))
        self.same(makes(job), [("p", 0, 0, 0), ("p", 0, 1, 0)])
        self.same(plates_of(job, 2), {"p": (((1, 0), (2, 0)),)})

    def test_smallest_plates(self):
        # Only the last panel is read: the plate has blanks for the others.
        job = (("sheet", "a", (2, 3)), ("print", "a", "p"), ("cut", "a", "row", 1, "b"),
               ("cut", "b", "column", 2, "book"))
        self.same(plates_of(job, 1), {"p": (((0, 0), (0, 0), (0, 0)), ((0, 0), (0, 0), (1, 0)))})
        # Only the first one is read: the plate has one panel.
        job = (("sheet", "book", (2, 3)), ("print", "book", "p"), ("cut", "book", "row", 1, "a"),
               ("cut", "book", "column", 1, "b"))
        self.same(plates_of(job, 1), {"p": (((1, 0),),)})
        # A plate that is not read in the book does not count.
        job = (("sheet", "book", (1, 1)), ("sheet", "a", (1, 1)), ("print", "a", "p"))
        self.same(plates_of(job, 0), {})

    def test_upside_down(self):
        job = (("sheet", "book", (1, 1)), ("print", "book", "p"), ("turn", "book", "spin"))
        self.same(plates_of(job, 1), {"p": (((1, 1),),)})
        self.same(plates_of(job, 0), {"p": (((0, 0),),)})

    def test_the_plates_of_a_full_row_of_folds(self):
        rng = random.Random(85)
        for size in small_sizes(8):
            for _ in range(3):
                folds = random_folds(rng, size)
                for n in (0, 1, size[0] * size[1], 2 * size[0] * size[1]):
                    front, back = laying(size, folds, n)
                    self.same(plates_of(both_printed(size, folds), n), {"p": front, "q": back}, (size, folds, n))

    def test_like_paper(self):
        rng = random.Random(86)
        found = 0
        for _ in range(400):
            job = random_book(rng, plates=("p", "q", "r", "s", "t"))
            made = made_by(job)
            for n in {0, 1, 2, len(made) - 1, len(made), len(made) + 1}:
                plates = self.pure(plates_of, job, n)
                self.same(plates, wanted_plates(made, n), (job, n))
                if plates is not None:
                    found += n > 1
                    self.true(is_right(printed(job, plates), n))
                    for plate in plates.values():
                        self.true(is_plate((len(plate), len(plate[0])), plate))
        self.assertGreater(found, 20)


class TestSoon(ShopCase):
    """Point 0.2: job books of 40 steps and 8 sheets."""

    def test_large_job_books(self):
        names = ["book", "a", "b", "c", "d", "e", "f", "g"]
        job = []
        for at, name in enumerate(names):
            job += [("sheet", name, (4, 4)), ("print", name, "p" + name), ("turn", name, "turn"),
                    ("print", name, "q" + name)]
        for other in names[1:5]:
            job.append(("lay", "book", other))
        for fold in (("column", 2, "low", "over"), ("column", 1, "high", "under"), ("row", 2, "low", "over"),
                     ("row", 1, "low", "over")):
            job.append(("fold", "book", fold))
        job = tuple(job)
        self.assertEqual(len(job), 40)
        self.true(is_job(job))
        made = makes(job)
        plates = plates_of(job, len(made))
        self.true(is_right(printed(job, plates), len(made)))
        self.same(made, made_by(job))
        self.assertEqual(len(made), 160)


if __name__ == "__main__":
    unittest.main()
