"""Part 14: spoilt sheets."""

import itertools
import random
import unittest

from foldandbound.flows import check_safe, comes_out, is_flow, least_supply, safe_paper
from tests.support import JUNK, ShopCase, corrupted

A = ("paper", "a")
B = ("paper", "b")
TREE = ("gather", 2, (("run", 5, A), ("split", 2, ("run", 1, B))))


def letters(number):
    """A word for a number."""
    return "".join(chr(ord("a") + int(digit)) for digit in str(number))


def told_runs(flow):
    """The most that each run spoils, in their order."""
    if flow[0] == "paper":
        return []
    if flow[0] == "split":
        return told_runs(flow[2])
    below = [flow[2]] if flow[0] == "run" else flow[2]
    return [flow[1]] + [most for part in below for most in told_runs(part)]


def told_words(flow):
    if flow[0] == "paper":
        return [flow[1]]
    return [word for part in (flow[2] if flow[0] == "gather" else [flow[2]]) for word in told_words(part)]


def told_outputs(flow, supply, course):
    """What comes out of a flow, and of each of its runs; the course is an iterator."""
    if flow[0] == "paper":
        return supply[flow[1]], []
    if flow[0] == "split":
        number, numbers = told_outputs(flow[2], supply, course)
        return flow[1] * number, numbers
    spoils = next(course)
    parts = [told_outputs(part, supply, course) for part in ([flow[2]] if flow[0] == "run" else flow[2])]
    number = max(0, min(part[0] for part in parts) - spoils)
    return number, [number] + [one for part in parts for one in part[1]]


def told_out(flow, supply, course):
    return told_outputs(flow, supply, iter(course))[0]


def all_courses(flow):
    """All courses that can be, those with the fewest spoilt first, and of these the first ones."""
    courses = itertools.product(*[range(most + 1) for most in told_runs(flow)])
    return sorted(courses, key=lambda course: (sum(course), course))


def told_paper(flow, supply, wanted):
    for course in all_courses(flow):
        if told_out(flow, supply, course) < wanted:
            return ("short", course)
    return ("safe", tuple(told_outputs(flow, supply, iter(told_runs(flow)))[1]))


def random_flow(rng, runs, words=None, most=3):
    """A random flow with at most so many runs."""
    words = words if words is not None else iter("abcdefghijklmnopqrstuvwxyz")
    kind = rng.choice(("paper", "run", "run", "split", "gather", "gather"))
    if runs == 0 or kind == "paper" and rng.random() < 0.5:
        return ("paper", next(words))
    if kind == "split":
        return ("split", rng.randint(2, 4), random_flow(rng, runs, words, most))
    if kind == "run":
        return ("run", rng.randint(0, most), random_flow(rng, runs - 1, words, most))
    many = rng.randint(1, 3)
    each = [rng.randint(0, runs - 1) for _ in range(many)]
    while sum(each) > runs - 1:
        each[each.index(max(each))] -= 1
    return ("gather", rng.randint(0, most), tuple(random_flow(rng, few, words, most) for few in each))


def random_supply(rng, flow, most=15):
    return {word: rng.randint(0, most) for word in told_words(flow)}


def chain(many, most=1):
    """A flow of so many nodes, one below the other."""
    flow = A
    for _ in range(many - 1):
        flow = ("run", most, flow)
    return flow


class TestIsFlow(ShopCase):
    """Point 14.1."""

    def test_some(self):
        for flow in (A, TREE, ("run", 0, A), ("split", 2, A), ("gather", 0, (A,)), ("gather", 9, (B, A)),
                     ("paper", "abcdefghijkl"), ("gather", 1, (("gather", 1, (A,)), B))):
            self.true(self.pure(is_flow, flow), flow)

    def test_numbers(self):
        for number in (-1, 0, 1, 2, 3, 15, 16, 17, 98, 99, 100):
            self.same(is_flow(("run", number, A)), 0 <= number <= 99, number)
            self.same(is_flow(("gather", number, (A, B))), 0 <= number <= 99, number)
            self.same(is_flow(("split", number, A)), 2 <= number <= 16, number)

    def test_numbers_of_flows(self):
        for many in range(0, 9):
            flows = tuple(("paper", letters(k)) for k in range(many))
            self.same(is_flow(("gather", 1, flows)), 1 <= many <= 6, many)

    def test_words(self):
        for word in ("", "A", "a b", "abcdefghijklm", "a1", "\u00e9", 1, None, ("a",), b"a"):
            self.false(is_flow(("paper", word)), word)
        self.false(is_flow(("gather", 1, (A, A))))
        self.false(is_flow(("gather", 1, (("run", 2, A), B, ("split", 2, A)))))
        self.false(is_flow(("gather", 1, (("gather", 1, (A, B)), ("gather", 1, (("paper", "c"), B))))))
        self.true(is_flow(("gather", 1, (A, B, ("paper", "ab"), ("paper", "ba")))))

    def test_numbers_of_nodes(self):
        for many in (1, 39, 40, 41, 60):
            self.same(is_flow(chain(many)), many <= 40, many)
        rows = tuple(tuple(("paper", letters(10 * row + k)) for k in range(6)) for row in range(6))
        wide = ("gather", 1, tuple(("gather", 1, row) for row in rows[:5]))
        self.true(is_flow(wide))
        self.true(is_flow(("run", 1, ("run", 1, ("run", 1, ("run", 1, wide))))))
        self.false(is_flow(("gather", 1, wide[2] + (("gather", 1, rows[5]),))))
        self.true(is_flow(("gather", 1, wide[2] + (("gather", 1, rows[5][:3]),))))
        self.false(is_flow(("gather", 1, wide[2] + (("gather", 1, rows[5][:4]),))))

    def test_wrong_values(self):
        self.refuses_junk(is_flow)
        self.refuses_corrupted(is_flow, TREE)
        for form in (lambda value: ("run", value, A), lambda value: ("run", 1, value), lambda value: (value, 1, A),
                     lambda value: ("split", 2, value), lambda value: ("gather", 1, value),
                     lambda value: ("gather", 1, (A, value)), lambda value: ("gather", value, (A,))):
            self.refuses_junk(lambda value: is_flow(form(value)), 0, 1, 2, 63)
        self.refuses_junk(lambda value: is_flow(("split", value, A)), 2)
        self.refuses_junk(lambda value: is_flow(("paper", value)), "a", "book", "front", "column", "ab")
        for value in (("paper",), ("paper", "a", "b"), ("run", 1), ("run", 1, A, B), ("run", A), ("split", 2),
                      ("gather", 1), ("gather", 1, A), ("gather", 1, [A]), ("gather", 1, A, B), ("run", 1, (A,)),
                      ("run", True, A), ("gather", False, (A,)), ("split", 2.0, A), ("Run", 1, A), ("fold", 1, A)):
            self.false(is_flow(value), value)

    def test_deep_values(self):
        self.false(is_flow(chain(200)))
        flow = A
        for _ in range(190):
            flow = ("gather", 1, (flow,) * 6)
        self.false(is_flow(flow))


class TestComesOut(ShopCase):
    """Point 14.2."""

    def test_some(self):
        self.same(comes_out(A, {"a": 7}, ()), 7)
        self.same(comes_out(("run", 3, A), {"a": 7}, (2,)), 5)
        self.same(comes_out(("run", 9, A), {"a": 7}, (8,)), 0)
        self.same(comes_out(("split", 4, A), {"a": 7}, ()), 28)
        self.same(comes_out(("split", 4, ("run", 1, A)), {"a": 7}, (1,)), 24)
        self.same(comes_out(("run", 1, ("split", 4, A)), {"a": 7}, (1,)), 27)
        self.same(comes_out(("gather", 3, (A, B)), {"a": 7, "b": 5}, (3,)), 2)
        self.same(comes_out(("gather", 3, (A, B)), {"a": 1, "b": 5}, (3,)), 0)
        self.same(comes_out(TREE, {"a": 17, "b": 7}, (2, 5, 1)), 10)
        self.same(comes_out(TREE, {"a": 17, "b": 7}, (0, 0, 0)), 14)
        self.same(comes_out(TREE, {"a": 17, "b": 7}, (0, 5, 0)), 12)
        self.same(comes_out(TREE, {"a": 17, "b": 7}, (0, 0, 1)), 12)

    def test_random_flows(self):
        rng = random.Random(141)
        for _ in range(300):
            flow = random_flow(rng, rng.randint(0, 6))
            supply = random_supply(rng, flow)
            course = tuple(rng.randint(0, most) for most in told_runs(flow))
            wanted = told_out(flow, supply, course)
            self.same(self.pure(comes_out, flow, supply, course), wanted, (flow, supply, course))


class TestSafe(ShopCase):
    """Point 14.3."""

    def test_some(self):
        self.same(safe_paper(TREE, {"a": 17, "b": 7}, 10), ("safe", (10, 12, 6)))
        self.same(safe_paper(TREE, {"a": 18, "b": 9}, 10), ("safe", (11, 13, 8)))
        self.same(safe_paper(TREE, {"a": 16, "b": 7}, 10), ("short", (2, 5, 0)))
        self.same(safe_paper(TREE, {"a": 17, "b": 6}, 10), ("short", (1, 0, 1)))
        self.same(safe_paper(TREE, {"a": 9, "b": 6}, 10), ("short", (0, 0, 0)))
        self.same(safe_paper(A, {"a": 5}, 5), ("safe", ()))
        self.same(safe_paper(A, {"a": 5}, 6), ("short", ()))
        self.same(safe_paper(A, {"a": 0}, 0), ("safe", ()))
        self.same(safe_paper(("run", 9, A), {"a": 3}, 0), ("safe", (0,)))
        # The first one of equal courses spoils as late in the tuple as it can.
        self.same(safe_paper(("run", 3, ("run", 3, A)), {"a": 5}, 4), ("short", (0, 2)))
        self.same(safe_paper(("run", 3, ("run", 1, A)), {"a": 5}, 4), ("short", (1, 1)))
        self.same(safe_paper(("gather", 0, (("run", 2, A), ("run", 2, B))), {"a": 5, "b": 5}, 5), ("short", (0, 0, 1)))
        # What is spoilt before a split counts more.
        self.same(safe_paper(("run", 9, ("split", 4, ("run", 9, A))), {"a": 5}, 16), ("short", (0, 2)))
        self.same(safe_paper(("run", 9, ("split", 4, ("run", 1, A))), {"a": 5}, 16), ("short", (1, 1)))
        self.same(safe_paper(("run", 9, ("split", 4, ("run", 9, A))), {"a": 5}, 18), ("short", (0, 1)))

    def test_random_flows(self):
        rng = random.Random(142)
        words = {"safe": 0, "short": 0}
        for _ in range(600):
            flow = random_flow(rng, rng.randint(0, 4), most=rng.choice((1, 2, 3, 4)))
            supply = random_supply(rng, flow, rng.choice((4, 8, 15)))
            worst = told_out(flow, supply, told_runs(flow))
            for wanted in {0, 1, worst, worst + 1, worst + rng.randint(1, 4), told_out(flow, supply, [0] * 99)}:
                paper = self.pure(safe_paper, flow, supply, wanted)
                self.same(paper, told_paper(flow, supply, wanted), (flow, supply, wanted))
                self.true(self.pure(check_safe, flow, supply, wanted, paper))
                words[paper[0]] += 1
        self.assertGreater(min(words.values()), 400)

    def test_all_courses_are_checked(self):
        rng = random.Random(143)
        for _ in range(80):
            flow = random_flow(rng, 3, most=2)
            supply = random_supply(rng, flow, 6)
            wanted = told_out(flow, supply, told_runs(flow)) + rng.randint(0, 2)
            mosts = told_runs(flow)
            for course in itertools.product(*[range(-1, most + 2) for most in mosts]):
                can_be = all(0 <= spoils <= most for spoils, most in zip(course, mosts))
                wrong = can_be and told_out(flow, supply, course) < wanted
                self.same(check_safe(flow, supply, wanted, ("short", course)), wrong, (flow, supply, wanted, course))

    def test_numbers_of_the_safe_paper(self):
        supply = {"a": 17, "b": 7}
        self.true(check_safe(TREE, supply, 10, ("safe", (10, 12, 6))))
        self.true(check_safe(TREE, supply, 0, ("safe", (10, 12, 6))))
        self.false(check_safe(TREE, supply, 11, ("safe", (10, 12, 6))))
        for at in range(3):
            for more in (-1, 1):
                numbers = tuple(number + more * (k == at) for k, number in enumerate((10, 12, 6)))
                self.false(check_safe(TREE, supply, 9, ("safe", numbers)))
        for numbers in ((), (10, 12), (10, 12, 6, 0), (10, 6, 12), [10, 12, 6], (0, 0, 0), (14, 17, 7)):
            self.false(check_safe(TREE, supply, 10, ("safe", numbers)), numbers)

    def test_courses_of_the_short_paper(self):
        supply = {"a": 16, "b": 7}
        for course in ((2, 5, 0), (2, 5, 1)):
            self.true(check_safe(TREE, supply, 10, ("short", course)))
        for course in ((1, 5, 1), (2, 4, 0), (3, 5, 0), (2, 6, 0), (2, 5, 2), (2, 5, -1), (2, 5), (2, 5, 0, 0), (),
                       [2, 5, 0], ("a", "b", "c")):
            self.false(check_safe(TREE, supply, 10, ("short", course)), course)
        self.false(check_safe(A, {"a": 5}, 5, ("short", ())))
        self.true(check_safe(A, {"a": 5}, 6, ("short", ())))

    def test_wrong_values(self):
        for supply, wanted in (({"a": 17, "b": 7}, 10), ({"a": 16, "b": 7}, 10)):
            paper = safe_paper(TREE, supply, wanted)
            self.true(check_safe(TREE, supply, wanted, paper))
            for value in corrupted(paper):
                self.false(check_safe(TREE, supply, wanted, value), value)
            self.refuses_junk(lambda value: check_safe(TREE, supply, wanted, value))
            self.refuses_junk(lambda value: check_safe(TREE, supply, wanted, (paper[0], value)))
            self.refuses_junk(lambda value: check_safe(TREE, supply, wanted, (value, paper[1])))
            first, rest = paper[1][0], paper[1][1:]
            self.refuses_junk(lambda value: check_safe(TREE, supply, wanted, (paper[0], (value,) + rest)), first)
            for value in (paper[:1], paper + (1,), paper[1], (paper,), ("safe", paper[1], 1)):
                self.false(check_safe(TREE, supply, wanted, value), value)
        self.false(check_safe(("run", 1, A), {"a": 1}, 1, ("short", (True,))))
        self.false(check_safe(("run", 1, A), {"a": 1}, 0, ("safe", (False,))))


class TestLeastSupply(ShopCase):
    """Point 14.4."""

    def test_some(self):
        self.same(least_supply(TREE, 10), {"a": 17, "b": 7})
        self.same(least_supply(A, 3), {"a": 3})
        self.same(least_supply(("split", 4, A), 1), {"a": 1})
        self.same(least_supply(("split", 4, A), 4), {"a": 1})
        self.same(least_supply(("split", 4, A), 5), {"a": 2})
        self.same(least_supply(("run", 3, ("split", 4, ("run", 2, A))), 5), {"a": 4})
        self.same(least_supply(("run", 3, ("split", 4, ("run", 2, A))), 6), {"a": 5})

    def test_one_less_is_too_few(self):
        rng = random.Random(144)
        for _ in range(200):
            flow = random_flow(rng, rng.randint(0, 6), most=9)
            wanted = rng.randint(1, 30)
            supply = self.pure(least_supply, flow, wanted)
            self.same(sorted(supply), sorted(told_words(flow)))
            self.same(safe_paper(flow, supply, wanted)[0], "safe", (flow, wanted))
            for word in supply:
                # Also with any more of all others.
                less = {other: number + 1000 for other, number in supply.items()}
                less[word] = supply[word] - 1
                paper = safe_paper(flow, less, wanted)
                self.same(paper[0], "short", (flow, wanted, word))
                self.true(check_safe(flow, less, wanted, paper))


class TestSoon(ShopCase):
    """Point 0.2: trees of 12 runs."""

    def test_twelve_runs(self):
        three = [("run", 99, ("split", 7, ("run", 98, ("run", 97, ("paper", word))))) for word in "abc"]
        flows = [chain(13, 99), ("run", 99, ("run", 50, ("gather", 99, tuple(three)))),
                 ("gather", 99, tuple(("run", 90 + k, ("run", 99, ("paper", "abcdef"[k]))) for k in range(5)))]
        for flow in flows:
            for wanted in (1, 100, 10 ** 6):
                supply = least_supply(flow, wanted)
                self.same(safe_paper(flow, supply, wanted)[0], "safe")
                for less in (1, 7, 300):
                    word = sorted(supply)[-1]
                    short = {**supply, word: max(0, supply[word] - less)}
                    paper = safe_paper(flow, short, wanted)
                    self.same(paper[0], "short")
                    self.true(check_safe(flow, short, wanted, paper))
                    self.false(check_safe(flow, supply, wanted, paper))

    def test_values_that_are_no_papers(self):
        self.assertEqual([value for value in JUNK if check_safe(A, {"a": 1}, 1, value) is not False], [])


if __name__ == "__main__":
    unittest.main()
