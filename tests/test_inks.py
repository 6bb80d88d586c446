"""Part 25: inks on plates."""

import random
import unittest

from foldandbound.errors import TooMany
from foldandbound.inks import best_lay, fewest_plates, inks_of_job, inks_on, least_pages, plates_needed
from foldandbound.orders import lays_for
from tests.support import ShopCase, random_job, random_lay, random_plate, random_plates, small_sizes

INKS = {1: ("black",), 4: ("black", "red"), 2: ("black",)}
WORDS = ("black", "blue", "red", "yellow")


def random_inks(rng, pages):
    """Random inks of some pages; some are not in the dict, some need none."""
    inks = {}
    for page in range(1, pages + 1):
        if rng.random() < 0.8:
            inks[page] = tuple(sorted(rng.sample(WORDS, rng.choice((0, 1, 1, 2, 3)))))
    return inks


def told_inks(plate, inks):
    found = []
    for row in plate:
        for page, _ in row:
            found += inks.get(page, ())
    return sorted(set(found))


class TestInksOn(ShopCase):
    """Point 25.1."""

    def test_some(self):
        self.same(self.pure(inks_on, (((1, 0), (4, 1)),), INKS), ["black", "red"])
        self.same(inks_on((((4, 1),),), INKS), ["black", "red"])
        self.same(inks_on((((1, 0), (2, 0)),), INKS), ["black"])
        self.same(inks_on((((3, 0), (0, 0)),), INKS), [])
        self.same(inks_on((((3, 0), (5, 0)),), {3: (), 5: ()}), [])
        self.same(inks_on((((3, 0), (5, 0)),), {3: ("z", "zz"), 5: ("a", "zz")}), ["a", "z", "zz"])
        self.same(inks_on((((9999, 1),), ((0, 0),)), {9999: ("a",)}), ["a"])
        self.same(inks_on((((1, 0),),), {}), [])

    def test_some_lays(self):
        lay = ((((1, 0), (4, 0)),), (((2, 0), (3, 0)),))
        self.same(self.pure(plates_needed, lay, INKS), 3)
        self.same(plates_needed((lay[0], lay[0]), INKS), 4)
        self.same(plates_needed((lay[1], lay[1]), INKS), 2)
        self.same(plates_needed(lay, {}), 0)

    def test_random_plates(self):
        rng = random.Random(251)
        for _ in range(200):
            inks = random_inks(rng, 9)
            size = rng.choice(small_sizes(12))
            plate, lay = random_plate(rng, size), random_lay(rng, size)
            self.same(self.pure(inks_on, plate, inks), told_inks(plate, inks))
            wanted = len(told_inks(lay[0], inks)) + len(told_inks(lay[1], inks))
            self.same(self.pure(plates_needed, lay, inks), wanted)

    def test_jobs(self):
        plates = {"p": (((1, 0), (4, 0)),), "q": (((2, 0),),), "r": (((3, 0),),), "unused": (((4, 0),),)}
        sheet, turn = ("sheet", "book", (1, 2)), ("turn", "book", "turn")
        for words, wanted in ((("p", "q"), 3), (("p", "p"), 2), (("q", "q", "q"), 1), (("r",), 0), (("x",), 0), ((), 0),
                              (("x", "p", "x", "q", "p"), 3)):
            job = (sheet,) + tuple(step for word in words for step in (("print", "book", word), turn))
            self.same(self.pure(inks_of_job, job, plates, INKS), wanted, words)
        # Only what `print` names counts, and nobody asks whether the job book can be done.
        self.same(inks_of_job((("sheet", "p", (1, 1)), ("lay", "p", "q"), ("cut", "p", "row", 1, "q")), plates, INKS), 0)
        self.same(inks_of_job((("print", "nothing", "p"), ("print", "p", "x")), plates, INKS), 2)
        self.same(inks_of_job((), plates, INKS), 0)
        self.same(inks_of_job((sheet, ("print", "book", "p")), {}, INKS), 0)

    def test_random_jobs(self):
        rng = random.Random(252)
        for _ in range(100):
            job, plates, inks = random_job(rng, 12), random_plates(rng), random_inks(rng, 9)
            words = {step[2] for step in job if step[0] == "print"}
            wanted = sum(len(told_inks(plates[word], inks)) for word in words if word in plates)
            self.same(self.pure(inks_of_job, job, plates, inks), wanted)


class TestLays(ShopCase):
    """Point 25.2."""

    def test_some(self):
        self.same(fewest_plates((1, 2), 4, INKS), 3)
        self.same(fewest_plates((1, 2), 4, {1: ("red",), 4: ("red",)}), 1)
        self.same(fewest_plates((1, 2), 4, {1: ("red",), 3: ("red",)}), 2)
        self.same(least_pages((1, 2), 4, INKS, "red"), 1)
        self.same(least_pages((1, 2), 4, INKS, "black"), 2)
        self.same(least_pages((1, 2), 4, INKS, "blue"), 0)
        self.same(least_pages((1, 2), 0, INKS, "black"), 0)

    def test_too_many_pages(self):
        for size in ((1, 1), (1, 2), (2, 2)):
            faces = 2 * size[0] * size[1]
            for n in range(faces + 1):
                best_lay(size, n, INKS)
            for n in (faces + 1, faces + 2, 9999):
                self.fails(TooMany, fewest_plates, size, n, INKS)
                self.fails(TooMany, best_lay, size, n, INKS)
                self.fails(TooMany, least_pages, size, n, INKS, "red")

    def test_all_lays(self):
        rng = random.Random(253)
        found = {}
        for size in small_sizes(4) + [(2, 3), (1, 5)]:
            faces = 2 * size[0] * size[1]
            for n in sorted({0, 1, faces // 2, faces - 1, faces}):
                lays = lays_for(size, n)
                for _ in range(4):
                    inks = random_inks(rng, n)
                    counts = [len(told_inks(lay[0], inks)) + len(told_inks(lay[1], inks)) for lay in lays]
                    self.same(self.pure(fewest_plates, size, n, inks), min(counts))
                    # The first one of equally good ones.
                    self.same(self.pure(best_lay, size, n, inks), lays[counts.index(min(counts))])
                    found[counts.index(min(counts)) > 0] = True
                    for ink in WORDS:
                        sides = [sum(ink in told_inks(plate, inks) for plate in lay) for lay in lays]
                        self.same(self.pure(least_pages, size, n, inks, ink), min(sides))
                        found["sides", min(sides)] = True
        self.assertEqual(len(found), 5)

    def test_six_panels_end_soon(self):
        inks = {page: ("black",) if page % 3 else ("black", "red") for page in range(1, 13)}
        for size in ((1, 6), (2, 3), (3, 2), (6, 1)):
            self.same(plates_needed(best_lay(size, 12, inks), inks), fewest_plates(size, 12, inks))
            least_pages(size, 12, inks, "red")


if __name__ == "__main__":
    unittest.main()
