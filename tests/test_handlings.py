"""Part 24: handlings that lead to a pile."""

import random
import unittest

from foldandbound.errors import BadHandling
from foldandbound.folding import flat
from foldandbound.handlings import handled, handlings_to, is_handling, job_of, most_handlings, piles_of
from foldandbound.jobs import is_job, run_job
from tests.support import Paper, ShopCase, all_folds, made_by, random_folds, small_sizes

FOLD = ("column", 1, "low", "over")
TURNS = ("spin", "tumble", "turn")


def all_handlings(rows, columns):
    """All handlings of a stack of so many rows and columns, in the order of Python."""
    found = [("fold", fold) for fold in all_folds(rows, columns)]
    found += [("halve", axis) for axis, many in (("column", columns), ("row", rows)) if many % 2 == 0]
    return found + [("turn", motion) for motion in TURNS]


def told_handled(paper, handling):
    """The paper after a handling, or None if it cannot be done."""
    kind, how = handling
    if kind == "turn":
        return paper.moved(how)
    if kind == "fold":
        return paper.folded(how)
    many = paper.columns() if how == "column" else paper.rows()
    if many % 2 == 1:
        return None
    low, high = paper.cut(how, many // 2)
    return low.under(high)


def told_rows(size, most):
    """From each stack that rows of at most so many handlings lead to, to the first one of the shortest rows."""
    start = Paper.flat(size)
    found = {start.stack(): ()}
    rows = [((), start)]
    for _ in range(most):
        longer = []
        for row, paper in rows:
            for handling in all_handlings(paper.rows(), paper.columns()):
                after = told_handled(paper, handling)
                longer.append((row + (handling,), after))
        # All rows are kept here, so that nothing hangs on the way in which the program leaves some out.
        rows = sorted(longer, key=lambda pair: pair[0])
        for row, paper in rows:
            found.setdefault(paper.stack(), row)
    return found


def random_handlings(rng, size, more=True):
    """A random row of handlings that leads to one place."""
    paper = Paper.flat(size)
    row = []
    while (paper.rows(), paper.columns()) != (1, 1) or more and rng.random() < 0.3:
        handling = rng.choice(all_handlings(paper.rows(), paper.columns()))
        paper = told_handled(paper, handling)
        row.append(handling)
    return tuple(row), paper


class TestIsHandling(ShopCase):
    """Point 24.1."""

    def test_good_ones(self):
        for value in (("turn", "turn"), ("turn", "tumble"), ("turn", "spin"), ("halve", "column"), ("halve", "row"),
                      ("fold", FOLD), ("fold", ("row", 63, "high", "under"))):
            self.true(is_handling(value), value)
            self.refuses_corrupted(is_handling, value)

    def test_wrong_values(self):
        self.refuses_junk(is_handling)
        for kind, good in (("turn", TURNS), ("halve", ("column", "row")), ("fold", (FOLD,))):
            self.refuses_junk(lambda value: is_handling((kind, value)), *good)
            self.refuses_junk(lambda value: is_handling((value, good[0])))
            self.refuses_junk(lambda value: is_handling((kind, good[0], value)))
            self.refuses_junk(lambda value: is_handling(value + (kind, good[0]) if isinstance(value, tuple) else value), ())
        for value in (("turn", "stay"), ("turn", "flip"), ("turn", ""), ("turn",), ("turn", "turn", "turn"), ("halve", "x"),
                      ("halve", "columns"), ("halve", "column", 1), ("halve",), ("fold",), ("fold",) + FOLD,
                      ("fold", ("column", 0, "low", "over")), ("fold", ("column", 64, "low", "over")), ("fold", "column"),
                      ("fold", list(FOLD)), ("cut", "column"), ("lay", "row"), ("halve", ("column",)), FOLD, "turn",
                      ["turn", "turn"], {"turn": "turn"}, ("turn", ["turn"]), (("turn", "turn"),), ("Turn", "turn")):
            self.false(is_handling(value), value)


class TestHandled(ShopCase):
    """Point 24.1."""

    def test_some(self):
        stack = flat(0, (1, 2))
        self.same(self.pure(handled, stack, ("halve", "column")), ((((0, 0, 0, 0, 0), (0, 0, 1, 0, 0)),),))
        self.same(self.pure(handled, stack, ("turn", "turn")), ((((0, 0, 1, 1, 0),), ((0, 0, 0, 1, 0),)),))
        self.same(self.pure(handled, stack, ("fold", FOLD)), ((((0, 0, 1, 0, 0), (0, 0, 0, 1, 0)),),))
        # The part of the greater numbers is laid on the other one as it is.
        self.same(handled(flat(3, (4, 1)), ("halve", "row")),
                  ((((3, 0, 0, 0, 0), (3, 2, 0, 0, 0)),), (((3, 1, 0, 0, 0), (3, 3, 0, 0, 0)),)))
        twice = handled(handled(flat(0, (1, 4)), ("halve", "column")), ("halve", "column"))
        self.same([layer[2] for layer in twice[0][0]], [0, 2, 1, 3])

    def test_what_cannot_be_done(self):
        for size in ((1, 1), (1, 3), (3, 1), (3, 3), (1, 15), (15, 1), (2, 3), (3, 2), (2, 2)):
            stack = flat(0, size)
            for axis, many in (("column", size[1]), ("row", size[0])):
                if many % 2 == 1:
                    self.fails(BadHandling, handled, stack, ("halve", axis))
                else:
                    handled(stack, ("halve", axis))
                for line in (1, 2, 3, 14, 15, 16, 63):
                    handling = ("fold", (axis, line, "high", "under"))
                    if line < many:
                        handled(stack, handling)
                    else:
                        self.fails(BadHandling, handled, stack, handling)

    def test_random_rows(self):
        rng = random.Random(241)
        for size in small_sizes(16):
            for _ in range(4):
                paper, stack = Paper.flat(size), flat(0, size)
                for _ in range(rng.randint(1, 8)):
                    handling = rng.choice(all_handlings(paper.rows(), paper.columns()))
                    paper = told_handled(paper, handling)
                    stack = self.pure(handled, stack, handling)
                    self.same(stack, paper.stack())


class TestHandlingsTo(ShopCase):
    """Point 24.2."""

    # Sizes with the greatest length of rows that is tried for them.
    SIZES = (((1, 1), 3), ((1, 2), 4), ((2, 1), 4), ((1, 3), 4), ((3, 1), 4), ((2, 2), 4), ((1, 4), 3), ((4, 1), 3))

    def test_some(self):
        self.same(self.pure(handlings_to, (1, 1), ((0, 0, 0, 0, 0),)), ())
        self.same(handlings_to((1, 1), ((0, 0, 0, 1, 1),)), (("turn", "spin"),))
        self.same(handlings_to((1, 2), ((0, 0, 0, 0, 0), (0, 0, 1, 0, 0))), (("halve", "column"),))
        self.same(handlings_to((1, 2), ((0, 0, 1, 0, 0), (0, 0, 0, 1, 0))), (("fold", FOLD),))

    def test_piles_without_a_row(self):
        for size, pile in (((1, 1), ((1, 0, 0, 0, 0),)), ((1, 1), ((0, 0, 1, 0, 0),)), ((1, 1), ((0, 0, 0, 0, 0),) * 2),
                           ((1, 2), ((0, 0, 0, 0, 0),)), ((1, 2), ((0, 0, 0, 0, 0), (0, 0, 1, 0, 1))),
                           ((1, 2), ((0, 0, 1, 1, 0), (0, 0, 0, 0, 1))), ((1, 2), ((0, 0, 0, 0, 0), (0, 0, 0, 0, 0))),
                           ((1, 2), ((0, 0, 0, 0, 0), (1, 0, 1, 0, 0))), ((2, 1), ((0, 0, 0, 0, 0), (0, 0, 1, 0, 0))),
                           ((1, 3), ((0, 0, 0, 0, 0), (0, 0, 1, 0, 0), (0, 0, 2, 0, 0)))):
            self.same(handlings_to(size, pile), None, (size, pile))

    def test_all_rows_of_small_sizes(self):
        for size, most in self.SIZES:
            rows = told_rows(size, most)
            piles = {stack[0][0]: row for stack, row in rows.items() if len(stack) == len(stack[0]) == 1}
            for pile in sorted(piles)[::1 if len(piles) < 100 else 7]:
                self.same(self.pure(handlings_to, size, pile), piles[pile], (size, pile))
            found = self.pure(piles_of, size)
            self.same(found, sorted(found))
            self.same([pile for pile in piles if pile not in found], [])
            longest = most_handlings(size)
            # With rows longer than the longest one that is needed, all piles are met.
            if most >= longest:
                self.same(found, sorted(piles))
                self.same(longest, max(map(len, piles.values())))
            else:
                for pile in found:
                    self.same(pile in piles, len(handlings_to(size, pile)) <= most)

    def test_numbers_of_piles(self):
        for size, many, most in (((1, 1), 4, 1), ((1, 2), 16, 3), ((2, 1), 16, 3)):
            self.same((len(piles_of(size)), most_handlings(size)), (many, most), size)
        for size in ((1, 4), (2, 2), (4, 1)):
            lengths = [len(handlings_to(size, pile)) for pile in piles_of(size)]
            self.same(most_handlings(size), max(lengths))

    def test_the_rows_lead_there(self):
        rng = random.Random(242)
        for size in small_sizes(4):
            for _ in range(20):
                row, paper = random_handlings(rng, size)
                pile = paper.stack()[0][0]
                found = handlings_to(size, pile)
                self.assertLessEqual((len(found), found), (len(row), row))
                stack = flat(0, size)
                for handling in found:
                    self.true(is_handling(handling))
                    stack = handled(stack, handling)
                self.same(stack, ((pile,),))

    def test_six_panels_end_soon(self):
        for size in ((1, 5), (2, 3), (1, 6)):
            piles = piles_of(size)
            self.assertTrue(all(handlings_to(size, pile) is not None for pile in piles[::500]))
            self.assertGreater(most_handlings(size), 4)


class TestJobOf(ShopCase):
    """Point 24.3."""

    START = (("sheet", "book", (1, 2)), ("print", "book", "p"), ("turn", "book", "turn"), ("print", "book", "q"),
             ("turn", "book", "turn"))

    def test_some(self):
        self.same(self.pure(job_of, (1, 2), ("p", "q"), (("fold", FOLD),)), self.START + (("fold", "book", FOLD),))
        self.same(job_of((1, 2), ("p", "q"), (("turn", "spin"), ("halve", "column"), ("turn", "tumble"))),
                  self.START + (("turn", "book", "spin"), ("cut", "book", "column", 1, "half"), ("lay", "book", "half"),
                                ("turn", "book", "tumble")))
        job = job_of((4, 1), ("a", "a"), (("halve", "row"), ("halve", "row")))
        self.same(job[:5], (("sheet", "book", (4, 1)), ("print", "book", "a"), ("turn", "book", "turn"),
                            ("print", "book", "a"), ("turn", "book", "turn")))
        self.same(job[5:], (("cut", "book", "row", 2, "half"), ("lay", "book", "half"), ("cut", "book", "row", 1, "half"),
                            ("lay", "book", "half")))
        self.same(job_of((1, 1), ("p", "q"), ()), (("sheet", "book", (1, 1)),) + self.START[1:])

    def test_random_rows(self):
        rng = random.Random(243)
        for size in small_sizes(12):
            for _ in range(5):
                row, paper = random_handlings(rng, size)
                prints = (rng.choice("pq"), rng.choice("pq"))
                many = 5 + sum(2 if kind == "halve" else 1 for kind, _ in row)
                if many > 60:
                    self.fails(BadHandling, job_of, size, prints, row)
                    continue
                job = self.pure(job_of, size, prints, row)
                self.true(is_job(job))
                self.same(len(job), many)
                self.same(run_job(job)[0], {"book": paper.stack()})
                made = made_by(job)
                self.same(len(made), 2 * size[0] * size[1])
                self.assertNotIn(None, made)
                # On the front of each panel is the first plate at its own place, on the back the other one.
                for (sheet, r, c, side), (plate, at, spin) in run_job(job)[1].items():
                    column = c if side == "front" else size[1] - 1 - c
                    self.same((plate, at, spin), (prints[side == "back"], (r, column), 0))

    def test_rows_that_end_too_early_or_go_on(self):
        for size, row in (((1, 2), ()), ((1, 2), (("turn", "turn"),)), ((1, 3), (("fold", FOLD),)),
                          ((2, 2), (("halve", "row"),)), ((1, 4), (("halve", "column"),)),
                          # With one place, nothing can be folded or halved.
                          ((1, 1), (("fold", FOLD),)), ((1, 1), (("halve", "row"),)),
                          ((1, 2), (("fold", FOLD), ("fold", FOLD))), ((1, 2), (("halve", "column"), ("halve", "column"))),
                          ((1, 2), (("halve", "column"), ("halve", "row"))),
                          ((1, 2), (("fold", ("column", 2, "low", "over")),)), ((1, 3), (("halve", "column"),)),
                          ((1, 2), (("halve", "row"), ("halve", "column")))):
            self.fails(BadHandling, job_of, size, ("p", "q"), row)
        # But it can be turned.
        self.same(len(job_of((1, 2), ("p", "q"), (("halve", "column"), ("turn", "spin")))), 8)

    def test_sixty_steps(self):
        turn = ("turn", "turn")
        for row in ((("fold", FOLD),), (("halve", "column"),)):
            steps = 5 + len(row) + (row[0][0] == "halve")
            for more in (58, 59, 60, 61, 62, 100):
                turns = (turn,) * (more - steps)
                for handlings in (turns + row, row + turns, turns[:9] + row + turns[9:]):
                    if more <= 60:
                        self.same(len(job_of((1, 2), ("p", "q"), handlings)), more)
                    else:
                        self.fails(BadHandling, job_of, (1, 2), ("p", "q"), handlings)

    def test_the_book_of_a_row_of_folds(self):
        rng = random.Random(244)
        for size in ((2, 2), (1, 4), (2, 4), (4, 4)):
            folds = random_folds(rng, size)
            job = job_of(size, ("p", "q"), tuple(("fold", fold) for fold in folds))
            self.same(job[5:], tuple(("fold", "book", fold) for fold in folds))


if __name__ == "__main__":
    unittest.main()
