"""Part 15: orders on a press."""

import itertools
import random
import unittest

from foldandbound.press import (
    by_due, check_kept, check_sequence, ends, ends_with, is_orders, kept_paper, most_failures, sequence_paper)
from tests.support import JUNK, ShopCase, corrupted

TWO = (("a", 0, 5, 20), ("b", 9, 3, 15))


def told_ends(orders, sequence, failures):
    """The ends, minute by minute: which order the press is at, and what of it is left."""
    by_word = {order[0]: order for order in orders}
    found = []
    minute = 0
    for place, word in enumerate(sequence):
        _, arrival, minutes, _ = by_word[word]
        while minute < arrival:
            minute += 1
        left = minutes + sum(lost for at, lost in failures if at == place)
        while left > 0:
            minute += 1
            left -= 1
        found.append(minute)
    return found


def is_late(orders, sequence, failures):
    dues = [order[3] for word in sequence for order in orders if order[0] == word]
    return any(end > due for end, due in zip(told_ends(orders, sequence, failures), dues))


def all_failures(orders, times, minutes):
    """All courses of failures, those with the fewest first, then with the least sums, then the first ones."""
    pairs = list(itertools.product(range(len(orders)), range(minutes + 1)))
    courses = [course for many in range(times + 1) for course in itertools.product(pairs, repeat=many)
               if [place for place, _ in course] == sorted(place for place, _ in course)]
    return sorted(courses, key=lambda course: (len(course), sum(lost for _, lost in course), course))


def told_kept_paper(orders, sequence, times, minutes):
    courses = all_failures(orders, times, minutes)
    for course in courses:
        if is_late(orders, sequence, course):
            return ("late", course)
    rows = [told_ends(orders, sequence, course) for course in courses]
    return ("kept", tuple(max(row[place] for row in rows) for place in range(len(orders))))


def told_table(orders, loss):
    """The table of all beginnings, from all sequences of all sets of orders."""
    found = {}
    for many in range(len(orders) + 1):
        for some in itertools.permutations(orders, many):
            row = told_ends(some, [order[0] for order in some], ())
            if all(end + loss <= order[3] for end, order in zip(row, some)):
                words = tuple(sorted(order[0] for order in some))
                found[words] = min(found.get(words, 10 ** 9), row[-1] if row else 0)
    return tuple(sorted(found.items()))


def all_sequences(orders):
    return list(itertools.permutations(sorted(order[0] for order in orders)))


def random_orders(rng, most, arrivals=8, longest=5, slack=14):
    words = rng.sample(["a", "b", "c", "d", "ab", "ba", "press"], rng.randint(0, most))
    found = []
    for word in words:
        arrival, minutes = rng.randint(0, arrivals), rng.randint(1, longest)
        found.append((word, arrival, minutes, max(0, arrival + minutes + rng.randint(-2, slack))))
    return tuple(found)


def random_sequence(rng, orders):
    return tuple(rng.sample([order[0] for order in orders], len(orders)))


class TestIsOrders(ShopCase):
    """Point 15.1."""

    def test_numbers_of_orders(self):
        for many in (0, 1, 9, 10, 11, 20):
            orders = tuple(("a" * (k % 12 + 1) + "b" * (k // 12), 0, 1, 0) for k in range(many))
            self.same(is_orders(orders), many <= 10, many)

    def test_words_twice(self):
        self.true(is_orders((("a", 0, 1, 2), ("b", 0, 1, 2), ("ab", 0, 1, 2))))
        self.false(is_orders((("a", 0, 1, 2), ("a", 0, 1, 2))))
        self.false(is_orders((("a", 0, 1, 2), ("b", 3, 1, 2), ("a", 9, 9, 9))))

    def test_numbers(self):
        for arrival, minutes, due in itertools.product((-1, 0, 1, 10 ** 20), repeat=3):
            wanted = arrival >= 0 and minutes >= 1 and due >= 0
            self.same(is_orders((("a", arrival, minutes, due),)), wanted, (arrival, minutes, due))

    def test_wrong_values(self):
        self.refuses_junk(is_orders, ())
        self.refuses_corrupted(is_orders, TWO)
        self.refuses_junk(lambda value: is_orders(((value, 0, 1, 2),)), "a", "book", "front", "column", "ab")
        self.refuses_junk(lambda value: is_orders((("a", value, 1, 2),)), 0, 1, 2, 63, 10 ** 30)
        self.refuses_junk(lambda value: is_orders((("a", 0, value, 2),)), 1, 2, 63, 10 ** 30)
        self.refuses_junk(lambda value: is_orders((("a", 0, 1, value),)), 0, 1, 2, 63, 10 ** 30)
        self.refuses_junk(lambda value: is_orders((("a", 0, 1, 2), value)))
        for value in ((("a", 0, 1),), (("a", 0, 1, 2, 3),), ("a", 0, 1, 2), [("a", 0, 1, 2)], (["a", 0, 1, 2],),
                      (("A", 0, 1, 2),), (("", 0, 1, 2),), (("abcdefghijklm", 0, 1, 2),), (("a", False, 1, 2),),
                      (("a", 0, True, 2),), (("a", 0, 1, True),), (("a", 0, 1.0, 2),)):
            self.false(is_orders(value), value)

    def test_ends(self):
        self.same(ends(TWO, ("a", "b")), [5, 12])
        self.same(ends(TWO, ("b", "a")), [12, 17])
        self.same(ends((), ()), [])
        # There after the press is free, just then, and before.
        self.same([ends((("a", 0, 5, 9), ("b", at, 3, 9)), ("a", "b")) for at in (0, 4, 5, 6)],
                  [[5, 8], [5, 8], [5, 8], [5, 9]])
        self.same(ends((("a", 7, 1, 0),), ("a",)), [8])


class TestEndsWith(ShopCase):
    """Point 15.2."""

    def test_some(self):
        self.same(ends_with(TWO, ("a", "b"), ((0, 6),)), [11, 14])
        self.same(ends_with(TWO, ("a", "b"), ()), [5, 12])
        self.same(ends_with(TWO, ("a", "b"), ((0, 4),)), [9, 12])
        self.same(ends_with(TWO, ("a", "b"), ((0, 5),)), [10, 13])
        self.same(ends_with(TWO, ("a", "b"), ((1, 6),)), [5, 18])
        self.same(ends_with(TWO, ("a", "b"), ((0, 2), (0, 3), (1, 0), (1, 1))), [10, 14])
        self.same(ends_with(TWO, ("b", "a"), ((0, 1),)), [13, 18])

    def test_random_courses(self):
        rng = random.Random(151)
        for _ in range(200):
            orders = random_orders(rng, 5)
            sequence = random_sequence(rng, orders)
            self.same(self.pure(ends, orders, sequence), told_ends(orders, sequence, ()))
            places = sorted(rng.randrange(len(orders)) for _ in range(rng.randint(0, 4) if orders else 0))
            failures = tuple((place, rng.randint(0, 4)) for place in places)
            self.same(self.pure(ends_with, orders, sequence, failures), told_ends(orders, sequence, failures))


class TestKept(ShopCase):
    """Point 15.3."""

    def test_some(self):
        self.same(kept_paper(TWO, ("a", "b"), 1, 4), ("late", ((1, 4),)))
        self.same(kept_paper(TWO, ("a", "b"), 1, 3), ("kept", (8, 15)))
        self.same(kept_paper(TWO, ("a", "b"), 3, 1), ("kept", (8, 15)))
        self.same(kept_paper(TWO, ("a", "b"), 4, 1), ("late", ((1, 1), (1, 1), (1, 1), (1, 1))))
        self.same(kept_paper(TWO, ("a", "b"), 0, 9), ("kept", (5, 12)))
        self.same(kept_paper(TWO, ("a", "b"), 9, 0), ("kept", (5, 12)))
        self.same(kept_paper(TWO, ("a", "b"), 3, 3), ("late", ((1, 1), (1, 3))))
        self.same(kept_paper((), (), 5, 5), ("kept", ()))

    def test_due_minutes_that_are_met_exactly(self):
        orders = (("a", 2, 5, 10), ("b", 0, 3, 13))
        self.same(kept_paper(orders, ("a", "b"), 1, 3), ("kept", (10, 13)))
        self.same(kept_paper(orders, ("a", "b"), 1, 4), ("late", ((0, 4),)))
        self.same(kept_paper((("a", 2, 5, 10), ("b", 0, 3, 12)), ("a", "b"), 1, 3), ("late", ((0, 3),)))
        self.same(kept_paper((("a", 2, 5, 7),), ("a",), 0, 0), ("kept", (7,)))
        self.same(kept_paper((("a", 2, 5, 6),), ("a",), 0, 0), ("late", ()))
        self.same(kept_paper((("a", 2, 5, 6),), ("a",), 7, 9), ("late", ()))

    def test_the_first_place(self):
        # If the press must wait for b, some of a failure at a counts for nothing.
        for arrival, place, minutes in ((0, 0, 6), (3, 0, 6), (4, 0, 6), (5, 1, 5), (6, 1, 4), (9, 1, 1)):
            orders = (("a", 0, 4, 99), ("b", arrival, 3, 99), ("c", 0, 2, 14))
            self.same(kept_paper(orders, ("a", "b", "c"), 1, 9), ("late", ((place, minutes),)), arrival)
        orders = (("a", 0, 4, 99), ("b", 4, 3, 99), ("c", 0, 2, 14))
        self.same(kept_paper(orders, ("a", "b", "c"), 1, 9), ("late", ((0, 6),)))
        self.same(kept_paper(orders, ("a", "b", "c"), 2, 5), ("late", ((0, 1), (0, 5))))
        self.same(kept_paper(orders, ("a", "b", "c"), 2, 3), ("late", ((0, 3), (0, 3))))

    def test_random_sequences(self):
        rng = random.Random(152)
        words = {"kept": 0, "late": 0}
        for _ in range(500):
            orders = random_orders(rng, 3, slack=rng.choice((3, 8, 14)))
            sequence = random_sequence(rng, orders)
            times, minutes = rng.randint(0, 3), rng.randint(0, 3)
            paper = self.pure(kept_paper, orders, sequence, times, minutes)
            self.same(paper, told_kept_paper(orders, sequence, times, minutes), (orders, sequence, times, minutes))
            self.true(self.pure(check_kept, orders, sequence, times, minutes, paper))
            words[paper[0]] += 1
        self.assertGreater(min(words.values()), 100)

    def test_all_courses_are_checked(self):
        rng = random.Random(153)
        for _ in range(40):
            orders = random_orders(rng, 3, slack=5)
            sequence = random_sequence(rng, orders)
            for course in all_failures(orders + (("x", 0, 1, 1),), 3, 2):
                can_be = len(course) <= 2 and all(place < len(orders) and lost <= 1 for place, lost in course)
                wanted = can_be and is_late(orders, sequence, course)
                self.same(check_kept(orders, sequence, 2, 1, ("late", course)), wanted, (orders, sequence, course))

    def test_minutes_of_the_kept_paper(self):
        self.true(check_kept(TWO, ("a", "b"), 1, 3, ("kept", (8, 15))))
        for value in ((8, 14), (8, 16), (7, 15), (9, 15), (5, 12), (8,), (8, 15, 15), (15, 8), (), [8, 15]):
            self.false(check_kept(TWO, ("a", "b"), 1, 3, ("kept", value)), value)
        # The right minutes, but not in time.
        self.false(check_kept(TWO, ("a", "b"), 1, 4, ("kept", (9, 16))))
        self.false(check_kept(TWO, ("b", "a"), 1, 4, ("kept", (16, 21))))
        self.true(check_kept((), (), 1, 4, ("kept", ())))
        self.false(check_kept((), (), 1, 4, ("late", ())))

    def test_courses_of_the_late_paper(self):
        # Each one that can be is right, not only the best one.
        for course in (((1, 4),), ((0, 0), (1, 4)), ((0, 4), (1, 4)), ((1, 2), (1, 2)), ((1, 3), (1, 1)),
                       ((1, 4), (1, 4))):
            self.true(check_kept(TWO, ("a", "b"), 2, 4, ("late", course)), course)
        for course in (((1, 3),), ((0, 4),), ((1, 5),), ((1, 4), (0, 0)), ((2, 4),), ((-1, 4),), ((1, -4),),
                       ((0, -1), (1, 4)), (),
                       ((1, 4), (1, 4), (1, 4)), ((1, 4, 0),), ((1,),), (1, 4), [(1, 4)], ([1, 4],)):
            self.false(check_kept(TWO, ("a", "b"), 2, 4, ("late", course)), course)

    def test_wrong_values(self):
        for minutes in (3, 4):
            paper = kept_paper(TWO, ("a", "b"), 1, minutes)
            for value in corrupted(paper):
                self.false(check_kept(TWO, ("a", "b"), 1, minutes, value), value)
            self.refuses_junk(lambda value: check_kept(TWO, ("a", "b"), 1, minutes, value))
            self.refuses_junk(lambda value: check_kept(TWO, ("a", "b"), 1, minutes, (paper[0], value)))
            self.refuses_junk(lambda value: check_kept(TWO, ("a", "b"), 1, minutes, (value, paper[1])))
            self.refuses_junk(lambda value: check_kept(TWO, ("a", "b"), 1, minutes, (paper[0], (value,))))
            for value in (paper[:1], paper + (1,), paper[1], (paper,)):
                self.false(check_kept(TWO, ("a", "b"), 1, minutes, value), value)
        self.refuses_junk(lambda value: check_kept(TWO, ("a", "b"), 1, 9, ("late", ((1, value),))))
        self.refuses_junk(lambda value: check_kept(TWO, ("a", "b"), 1, 9, ("late", ((value, 9),))), 0, 1)
        self.false(check_kept(TWO, ("a", "b"), 1, 4, ("late", ((True, 4),))))


class TestSequences(ShopCase):
    """Point 15.4."""

    def test_some(self):
        self.same(sequence_paper((), 2, 3), ("sequence", ()))
        self.same(sequence_paper((("a", 0, 5, 5),), 0, 3), ("sequence", ("a",)))
        self.same(sequence_paper((("a", 0, 5, 5),), 1, 1), ("none", (((), 0),)))
        self.same(sequence_paper((("a", 0, 5, 8), ("b", 0, 3, 8)), 0, 0)[0], "sequence")
        self.same(sequence_paper((("a", 0, 5, 5), ("b", 0, 3, 8)), 0, 0), ("sequence", ("a", "b")))
        self.same(sequence_paper((("a", 0, 5, 5), ("b", 0, 3, 7)), 0, 0),
                  ("none", (((), 0), (("a",), 5), (("b",), 3))))
        self.same(sequence_paper((("ab", 0, 5, 9), ("b", 0, 3, 7), ("a", 1, 1, 4)), 0, 0)[0], "sequence")
        self.same(sequence_paper((("ab", 0, 5, 9), ("b", 0, 3, 7), ("a", 1, 1, 3)), 1, 1),
                  ("none", (((), 0), (("a",), 2), (("a", "ab"), 7), (("a", "b"), 5), (("ab",), 5), (("ab", "b"), 8),
                            (("b",), 3))))

    def test_random_orders(self):
        rng = random.Random(154)
        words = {"sequence": 0, "none": 0}
        for _ in range(300):
            orders = random_orders(rng, 4, slack=rng.choice((4, 8, 12)))
            times, minutes = rng.choice((0, 1, 2)), rng.choice((0, 1, 2))
            table = told_table(orders, times * minutes)
            some = tuple(sorted(order[0] for order in orders))
            paper = self.pure(sequence_paper, orders, times, minutes)
            self.true(self.pure(check_sequence, orders, times, minutes, paper))
            words[paper[0]] += 1
            if some in dict(table):
                self.same(paper[0], "sequence")
                self.same(told_kept_paper(orders, paper[1], times, minutes)[0], "kept", (orders, paper))
                self.false(check_sequence(orders, times, minutes, ("none", table)))
                others = tuple(row for row in table if row[0] != some)
                self.false(check_sequence(orders, times, minutes, ("none", others)))
            else:
                self.same(paper, ("none", table), (orders, times, minutes))
            for sequence in all_sequences(orders):
                kept = told_kept_paper(orders, sequence, times, minutes)[0] == "kept"
                self.same(check_sequence(orders, times, minutes, ("sequence", sequence)), kept, (orders, sequence))
                self.assertTrue(not kept or paper[0] == "sequence")
        self.assertGreater(min(words.values()), 60)

    def test_changed_tables(self):
        orders = (("a", 0, 5, 11), ("b", 2, 3, 7), ("c", 0, 4, 9))
        table = told_table(orders, 0)
        self.true(check_sequence(orders, 0, 0, ("none", table)))
        for at, (words, end) in enumerate(table):
            for row in ((words, end + 1), (words, end - 1), (words[::-1], end), (words + ("d",), end),
                        (words[:-1], end), (list(words), end), (words, end, 0), (words,), words):
                value = table[:at] + (row,) + table[at + 1:]
                self.same(check_sequence(orders, 0, 0, ("none", value)), row == (words, end), value)
            self.false(check_sequence(orders, 0, 0, ("none", table[:at] + table[at + 1:])))
            self.false(check_sequence(orders, 0, 0, ("none", table[:at] + (table[at],) + table[at:])))
        for value in ((), table[::-1], list(table), table + ((("a", "b", "c"), 12),), ((),)):
            self.false(check_sequence(orders, 0, 0, ("none", value)), value)
        # With less to lose, the same table is not right.
        self.false(check_sequence(orders, 1, 1, ("none", table)))

    def test_the_empty_set(self):
        # No order at all is printed by the empty sequence: there is no right table.
        self.true(check_sequence((), 0, 0, ("sequence", ())))
        self.false(check_sequence((), 0, 0, ("none", ())))
        self.false(check_sequence((), 0, 0, ("none", (((), 0),))))
        orders = (("a", 3, 1, 3),)
        self.true(check_sequence(orders, 0, 0, ("none", (((), 0),))))
        for value in ((), (((), 1),), (((), 0), (("a",), 4)), ((("a",), 4),)):
            self.false(check_sequence(orders, 0, 0, ("none", value)), value)

    def test_sequences_that_are_none(self):
        orders = (("a", 0, 1, 99), ("b", 0, 1, 99))
        self.true(check_sequence(orders, 1, 1, ("sequence", ("b", "a"))))
        for value in ((), ("a",), ("a", "a"), ("a", "b", "b"), ("a", "c"), ("a", "b", "c"), ["a", "b"], "ab", ("ab",),
                      (("a",), "b"), ("a", None), ("a", 1), ("A", "b")):
            self.false(check_sequence(orders, 1, 1, ("sequence", value)), value)

    def test_wrong_values(self):
        for orders in (TWO, (("a", 0, 5, 5), ("b", 0, 3, 7))):
            paper = sequence_paper(orders, 0, 0)
            for value in corrupted(paper):
                self.false(check_sequence(orders, 0, 0, value), value)
            self.refuses_junk(lambda value: check_sequence(orders, 0, 0, value))
            self.refuses_junk(lambda value: check_sequence(orders, 0, 0, (paper[0], value)), ("a", "b"))
            self.refuses_junk(lambda value: check_sequence(orders, 0, 0, (value, paper[1])))
            rest = paper[1][1:]
            self.refuses_junk(lambda value: check_sequence(orders, 0, 0, (paper[0], (value,) + rest)), "a", ((), 0))
            for value in (paper[:1], paper + (1,), paper[1], (paper,)):
                self.false(check_sequence(orders, 0, 0, value), value)

    def test_by_due(self):
        self.same(by_due(()), ())
        self.same(by_due(TWO), ("b", "a"))
        self.same(by_due((("b", 0, 1, 5), ("c", 0, 1, 4), ("a", 9, 1, 5), ("ab", 0, 9, 5))), ("c", "a", "ab", "b"))
        rng = random.Random(155)
        for _ in range(100):
            orders = random_orders(rng, 5, slack=3)
            wanted = tuple(word for _, word in sorted((due, word) for word, _, _, due in orders))
            self.same(self.pure(by_due, orders), wanted)

    def test_by_due_is_kept_if_all_papers_are_there(self):
        rng = random.Random(156)
        for _ in range(150):
            orders = random_orders(rng, 4, arrivals=0, slack=9)
            times, minutes = rng.randint(0, 2), rng.randint(0, 2)
            kept = check_sequence(orders, times, minutes, ("sequence", by_due(orders)))
            self.same(kept, sequence_paper(orders, times, minutes)[0] == "sequence")


class TestMostFailures(ShopCase):
    """Point 15.5."""

    def test_some(self):
        self.same(most_failures(TWO, ("a", "b"), 1), 3)
        self.same(most_failures(TWO, ("a", "b"), 3), 1)
        self.same(most_failures(TWO, ("a", "b"), 4), 0)
        self.same(most_failures((("a", 0, 5, 5),), ("a",), 1), 0)
        self.same(most_failures((("a", 0, 5, 4),), ("a",), 1), -1)
        for minutes in (1, 2, 4, 5, 9):
            self.same(most_failures((("a", 0, 5, 0),), ("a",), minutes), -1)

    def test_random_sequences(self):
        rng = random.Random(157)
        found = []
        for _ in range(300):
            orders = random_orders(rng, 4, slack=20) or TWO
            sequence = random_sequence(rng, orders)
            minutes = rng.randint(1, 4)
            most = self.pure(most_failures, orders, sequence, minutes)
            found.append(most)
            self.assertGreaterEqual(most, -1)
            for times in range(0, most + 2):
                self.same(kept_paper(orders, sequence, times, minutes)[0] == "kept", times <= most)
        self.assertGreater(len(set(found)), 5)


class TestSoon(ShopCase):
    """Point 0.2: 8 orders on a press."""

    def test_eight_orders(self):
        rng = random.Random(158)
        for slack in (20, 40, 60, 200):
            for _ in range(10):
                orders = tuple((word, rng.randint(0, 30), rng.randint(1, 9), rng.randint(10, 30 + slack))
                               for word in ("a", "b", "c", "d", "e", "f", "g", "h"))
                paper = sequence_paper(orders, 2, 3)
                self.true(check_sequence(orders, 2, 3, paper))
                sequence = by_due(orders)
                self.true(check_kept(orders, sequence, 2, 3, kept_paper(orders, sequence, 2, 3)))
                if paper[0] == "sequence":
                    self.same(kept_paper(orders, paper[1], 2, 3)[0], "kept")

    def test_values_that_are_no_papers(self):
        for check in (lambda value: check_sequence(TWO, 1, 1, value),
                      lambda value: check_kept(TWO, ("a", "b"), 1, 1, value)):
            self.assertEqual([value for value in JUNK if check(value) is not False], [])


if __name__ == "__main__":
    unittest.main()
