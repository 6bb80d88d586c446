"""Part 13: labels on plates."""

import itertools
import random
import unittest

from foldandbound.labels import best_printing, fewest_sheets, is_printing, least_plates, spare
from tests.support import ShopCase, corrupted


def printed_numbers(labels, printing):
    """How many of each label are printed."""
    return [sum(runs * filled.count(label) for filled, runs in printing) for label in range(len(labels))]


def all_plates(labels, slots):
    """All tuples of at most so many labels in which none is less than the one before it."""
    numbers = range(len(labels))
    return [filled for many in range(slots + 1)
            for filled in itertools.combinations_with_replacement(numbers, many)]


def told_fewest(labels, slots, plates):
    """The fewest sheets, over all fillings of all plates and all runs, or None."""
    most = max(labels)
    found = []
    for filled in itertools.combinations_with_replacement(all_plates(labels, slots), plates):
        if not all(any(label in plate for plate in filled) for label in range(len(labels))):
            continue
        for runs in itertools.product(range(0, most + 1), repeat=plates):
            numbers = printed_numbers(labels, list(zip(filled, runs)))
            if all(number >= wanted for number, wanted in zip(numbers, labels)):
                found.append(sum(runs))
    return min(found) if found else None


def random_labels(rng, most_labels, most):
    return tuple(rng.randint(1, most) for _ in range(rng.randint(1, most_labels)))


class TestPrintings(ShopCase):
    """Point 13.1."""

    def test_some(self):
        labels = (5, 3)
        for value in ((((0, 1), 5),), (((0, 0, 1), 3),), (((0,), 5), ((1,), 3)), (((1,), 3), ((0,), 5)),
                      (((0, 1), 3), ((0,), 2)), (((0, 1), 3), ((0, 0), 1)), (((0, 1), 5), ((), 1)),
                      (((0,), 2), ((0,), 3), ((1, 1), 2)), (((0, 1, 1), 10 ** 30),)):
            self.true(self.pure(is_printing, labels, 3, value), value)
        for value in ((), (((0, 1), 4),), (((0, 0, 1), 2),), (((0,), 5),), (((), 9),), (((0,), 4), ((1,), 3)),
                      (((0,), 5), ((1,), 2)), (((1, 0), 5),), (((0, 1, 0), 5),), (((0, 0, 1, 1), 5),),
                      (((0, 1), 5), ((), 0)), (((0, 1), 5), ((0,), 0)), (((0, 1), 5), ((0,), -1)),
                      (((0, 1, 2), 5),), (((-1, 0, 1), 5),), (((0, 1), 5, 1),), (((0, 1),),), ((0, 1), 5)):
            self.false(is_printing(labels, 3, value), value)

    def test_numbers_of_slots(self):
        for many in range(0, 8):
            for slots in range(1, 7):
                self.same(is_printing((1,), slots, (((0,) * many, 1),)), 1 <= many <= slots, (many, slots))

    def test_all_small_printings(self):
        rng = random.Random(131)
        found = {True: 0, False: 0}
        for _ in range(60):
            labels = random_labels(rng, 3, 4)
            slots = rng.randint(1, 3)
            for _ in range(40):
                printing = tuple((rng.choice(all_plates(labels, slots + 1)), rng.randint(0, 4))
                                 for _ in range(rng.randint(0, 3)))
                wanted = all(len(filled) <= slots and runs >= 1 for filled, runs in printing) and all(
                    number >= least for number, least in zip(printed_numbers(labels, printing), labels))
                found[wanted] += 1
                self.same(is_printing(labels, slots, printing), wanted, (labels, slots, printing))
        self.assertGreater(min(found.values()), 100)

    def test_wrong_values(self):
        printing = (((0, 0, 1), 3), ((0, 1), 1))
        self.true(is_printing((7, 4), 3, printing))
        self.refuses_corrupted(lambda value: is_printing((7, 4), 3, value), printing)
        self.refuses_junk(lambda value: is_printing((7, 4), 3, value))
        self.refuses_junk(lambda value: is_printing((1,), 3, (((0,), value),)), 1, 2, 63, 10 ** 30)
        self.refuses_junk(lambda value: is_printing((1,), 3, (((value,), 1),)), 0)
        self.refuses_junk(lambda value: is_printing((1,), 3, (((0,), 1), value)))
        for value in ((((False,), 1),), (((0,), True),), (([0], 1),), ([(0,), 1],), [((0,), 1)], (("0", 1),),
                      (((0.0,), 1),), (((0,), 1.0),), (((0,), "1"),), ((0, 1),)):
            self.false(is_printing((1,), 3, value), value)

    def test_spare(self):
        self.same(spare((5, 3), (((0, 1), 5),)), [0, 2])
        self.same(spare((5, 3), (((0, 0, 1), 3),)), [1, 0])
        self.same(spare((5, 3), (((0,), 6), ((0, 1, 1), 2))), [3, 1])
        rng = random.Random(132)
        for _ in range(100):
            labels = random_labels(rng, 8, 50)
            printing = best_printing(labels, 8, 2)
            wanted = [number - least for number, least in zip(printed_numbers(labels, printing), labels)]
            self.same(self.pure(spare, labels, printing), wanted)
            self.assertGreaterEqual(min(wanted), 0)


class TestFewest(ShopCase):
    """Point 13.2."""

    def best(self, labels, slots, plates):
        """The fewest sheets, with a printing that has them."""
        fewest = self.pure(fewest_sheets, labels, slots, plates)
        printing = self.pure(best_printing, labels, slots, plates)
        if fewest is None:
            self.same(printing, None)
        else:
            self.true(is_printing(labels, slots, printing), (labels, slots, printing))
            self.assertLessEqual(len(printing), plates)
            self.same(sum(runs for _, runs in printing), fewest, (labels, slots, printing))
            numbers = printed_numbers(labels, printing)
            self.assertTrue(all(number >= wanted for number, wanted in zip(numbers, labels)))
        return fewest

    def test_some(self):
        self.same(self.best((100, 50, 50), 4, 1), 50)
        self.same(self.best((100, 50, 50), 3, 1), 100)
        self.same(self.best((100, 50, 50), 3, 2), 67)
        self.same(self.best((100, 50, 50), 2, 1), None)
        self.same(self.best((100, 50, 50), 2, 2), 100)
        self.same(self.best((100, 50, 50), 1, 2), None)
        self.same(self.best((7,), 1, 1), 7)
        self.same(self.best((7,), 1, 2), 7)
        self.same(self.best((7,), 3, 1), 3)
        self.same(self.best((7,), 3, 2), 3)
        self.same(self.best((1,), 5, 2), 1)
        self.same(self.best((1, 1, 1), 2, 2), 2)

    def test_two_plates_can_be_better(self):
        self.same(self.best((100, 1), 10, 1), 12)
        self.same(self.best((100, 1), 10, 2), 11)
        self.same(self.best((10, 10, 1), 2, 2), 11)

    def test_all_small_labels(self):
        for many in (1, 2, 3):
            for labels in itertools.product((1, 2, 5), repeat=many):
                for slots in (1, 2, 3):
                    self.same(self.best(labels, slots, 1), told_fewest(labels, slots, 1), (labels, slots))
                    if slots < 3 or many < 3:
                        self.same(self.best(labels, slots, 2), told_fewest(labels, slots, 2), (labels, slots))

    def test_random_labels(self):
        rng = random.Random(133)
        found = []
        for _ in range(40):
            labels, slots = random_labels(rng, 3, 9), rng.randint(1, 3)
            found.append((self.best(labels, slots, 1), self.best(labels, slots, 2)))
            self.same(found[-1], (told_fewest(labels, slots, 1), told_fewest(labels, slots, 2)), (labels, slots))
        for _ in range(20):
            labels, slots = random_labels(rng, 4, 6), rng.randint(1, 6)
            self.same(self.best(labels, slots, 1), told_fewest(labels, slots, 1), (labels, slots))
        self.assertGreater(len([pair for pair in found if pair[0] is not None and pair[1] < pair[0]]), 3)

    def test_one_plate_by_its_runs(self):
        # The least runs for which the labels do not need more slots than there are.
        rng = random.Random(134)
        for _ in range(200):
            labels, slots = random_labels(rng, 8, 300), rng.randint(1, 14)
            able = [runs for runs in range(1, 301) if sum(-(-wanted // runs) for wanted in labels) <= slots]
            self.same(self.best(labels, slots, 1), min(able) if able else None, (labels, slots))

    def test_least_plates(self):
        for many, slots in itertools.product(range(1, 9), range(1, 11)):
            labels = tuple(range(1, many + 1))
            plates = self.pure(least_plates, labels, slots)
            self.same(plates, -(-many // slots))
            for told in (1, 2):
                self.same(fewest_sheets(labels, slots, told) is None, told < plates, (many, slots))
                self.same(best_printing(labels, slots, told) is None, told < plates, (many, slots))
        self.same(least_plates((5, 5), 1), 2)
        self.same(fewest_sheets((5,), 0, 2), None)
        self.same(best_printing((5,), 0, 1), None)
        self.false(is_printing((5,), 0, (((), 5),)))


class TestSoon(ShopCase):
    """Point 0.2: 6 labels, 12 slots, 2 plates and quantities of 1000."""

    def test_large_quantities(self):
        rng = random.Random(135)
        rows = [(1000,) * 6, (1000, 1, 1, 1, 1, 1), (1000, 999, 998, 997, 996, 995), (1000, 500, 250, 125, 62, 31)]
        rows += [tuple(rng.randint(1, 1000) for _ in range(6)) for _ in range(20)]
        for labels in rows:
            for slots, plates in itertools.product((3, 4, 6, 7, 12), (1, 2)):
                fewest = fewest_sheets(labels, slots, plates)
                printing = best_printing(labels, slots, plates)
                self.same(fewest is None, 6 > slots * plates)
                if fewest is not None:
                    self.true(is_printing(labels, slots, printing))
                    self.same(sum(runs for _, runs in printing), fewest)
                    self.assertGreaterEqual(fewest * slots, sum(labels))
        self.same(fewest_sheets((1000,) * 6, 12, 2), 500)
        self.same(fewest_sheets((1000,) * 6, 3, 2), 2000)
        self.same(fewest_sheets((1000, 1, 1, 1, 1, 1), 12, 2), 84)


if __name__ == "__main__":
    unittest.main()
