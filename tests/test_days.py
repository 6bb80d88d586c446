"""Part 27: days against chance."""

import itertools
import random
import unittest

from foldandbound.days import can_be_held, check_day, day_paper, is_day, least_hours, most_failures_held
from tests.support import ShopCase, corrupted

D = (4, (("a", 2, 0, 1, 4),), 1, 0)
TWO = (3, (("a", 1, 0, 1, 3), ("b", 1, 0, 0, 2)), 0, 0)
LOST = (3, (("a", 1, 0, 2, 3), ("b", 1, 1, 1, 2)), 1, 0)


def subsets(things):
    """All tuples of some of ascending things."""
    return [some for many in range(len(things) + 1) for some in itertools.combinations(things, many)]


def told_moves(day, state):
    """All moves of chance in a state."""
    hour, left, failures, _ = state
    jobs = day[1]
    may = [k for k in range(len(jobs)) if left[k][0] == 0 and jobs[k][2] <= hour]
    must = {k for k in may if jobs[k][3] == hour}
    return [(some, fails) for some in subsets(may) if must <= set(some) for fails in ((0, 1) if failures else (0,))]


def told_choices(state, move):
    there = [k for k, (paper, work) in enumerate(state[1]) if (paper or k in move[0]) and work > 0]
    return [-1] + there


def told_after(state, move, choice):
    """The dict from 0, and 1 if chance may send the job back, to the states that follow."""
    hour, left, failures, returns = state
    now = [[1 if k in move[0] else paper, work] for k, (paper, work) in enumerate(left)]
    found = {}
    for back in (0, 1):
        then = [list(pair) for pair in now]
        if choice >= 0 and not move[1]:
            then[choice][1] -= 1
            if back and (then[choice][1] > 0 or returns == 0):
                continue
            then[choice][1] += back
        elif back:
            continue
        found[back] = (hour + 1, tuple(map(tuple, then)), failures - move[1], returns - back)
    return found


def told_lost(day, state):
    """The number of the first job by which the day is lost at the beginning of an hour, or None."""
    late = [k for k, job in enumerate(day[1]) if job[4] == state[0] and state[1][k][1] > 0]
    return late[0] if late else None


def told_first(day):
    return (0, tuple((0, job[1]) for job in day[1]), day[2], day[3])


def told_held(day):
    """Whether the shop can hold a day, by trying all."""
    known = {}

    def held(state):
        if state not in known:
            known[state] = all(any(keeps(state, move, choice) for choice in told_choices(state, move))
                               for move in told_moves(day, state))
        return known[state]

    def keeps(state, move, choice):
        for after in told_after(state, move, choice).values():
            if told_lost(day, after) is not None or after[0] < day[0] and not held(after):
                return False
        return True

    return held(told_first(day))


def told_will(day, entries):
    """Whether a tuple of entries of the right form is a closed will."""
    if list(entries) != sorted(set(entries)):
        return False
    coming, needed = [told_first(day)], set()
    for state in coming:
        for move in told_moves(day, state):
            choices = [entry[2] for entry in entries if entry[:2] == (state, move)]
            if len(choices) != 1 or choices[0] not in told_choices(state, move):
                return False
            needed.add((state, move))
            for after in told_after(state, move, choices[0]).values():
                if told_lost(day, after) is not None:
                    return False
                if after[0] < day[0] and after not in coming:
                    coming.append(after)
    return len(entries) == len(needed)


def is_whole(value):
    """Whether a value is made of tuples and integers alone."""
    return type(value) is int or type(value) is tuple and all(map(is_whole, value))


def told_course(day, state, course):
    """Whether a course of the right form is one for a state."""
    move, answers = course
    if move not in told_moves(day, state) or [answer[0] for answer in answers] != told_choices(state, move):
        return False
    for choice, back, rest in answers:
        after = told_after(state, move, choice).get(back)
        if after is None:
            return False
        lost = told_lost(day, after)
        if isinstance(rest, int) or lost is not None:
            if lost is None or rest != lost:
                return False
        elif after[0] == day[0] or not told_course(day, after, rest):
            return False
    return True


def random_day(rng, hours=6, jobs=3):
    hours = rng.randint(1, hours)
    told = []
    for word in "abcd"[:rng.randint(1, jobs)]:
        last = rng.randint(0, rng.randint(0, hours - 1))
        due = rng.randint(rng.randint(1, hours), hours)
        told.append((word, rng.choice((1, 1, 1, 2, 2, 3)), rng.randint(0, last), last, due))
    return (hours, tuple(told), rng.choice((0, 0, 1, 2, 3)), rng.choice((0, 0, 1, 2)))


class TestIsDay(ShopCase):
    """Point 27.1."""

    def test_good_days(self):
        for day in (D, TWO, LOST, (1, (("a", 1, 0, 0, 1),), 0, 0), (12, (("a", 6, 11, 11, 12),), 3, 2),
                    (12, (("abcdefghijkl", 6, 0, 11, 1), ("b", 1, 0, 0, 12), ("c", 6, 3, 5, 4), ("d", 2, 0, 0, 1)), 0, 2)):
            self.true(self.pure(is_day, day), day)

    def test_each_number_at_and_beyond_its_bounds(self):
        for hours in range(-1, 15):
            self.same(is_day((hours, (("a", 1, 0, 0, 1),), 0, 0)), 1 <= hours <= 12, hours)
        for hours in (1, 5, 12):
            for number in range(-1, 15):
                self.same(is_day((hours, (("a", number, 0, 0, 1),), 0, 0)), 1 <= number <= 6, number)
                self.same(is_day((hours, (("a", 1, 0, 0, number),), 0, 0)), 1 <= number <= hours, number)
                self.same(is_day((hours, (("a", 1, 0, 0, 1),), number, 0)), 0 <= number <= 3, number)
                self.same(is_day((hours, (("a", 1, 0, 0, 1),), 0, number)), 0 <= number <= 2, number)
                for last in range(-1, 15):
                    wanted = 0 <= number <= last < hours
                    self.same(is_day((hours, (("a", 1, number, last, 1),), 0, 0)), wanted, (hours, number, last))

    def test_numbers_of_jobs(self):
        for many in range(0, 7):
            jobs = tuple((word, 1, 0, 0, 1) for word in "abcdefg"[:many])
            self.same(is_day((3, jobs, 0, 0)), 1 <= many <= 4, many)

    def test_words(self):
        for words in ("aa", "aba", "abb", "abca"):
            self.false(is_day((3, tuple((word, 1, 0, 0, 1) for word in words), 0, 0)), words)
        for word in ("", "A", "a b", "abcdefghijklm", "a1", "\u00e9", 1, True, None, ("a",), ["a"], b"a", {}):
            self.false(is_day((3, ((word, 1, 0, 0, 1),), 0, 0)), word)
            self.false(is_day((3, (("a", 1, 0, 0, 1), (word, 1, 0, 0, 1)), 0, 0)), word)

    def test_wrong_values(self):
        self.refuses_junk(is_day)
        for day in (D, TWO, LOST):
            self.refuses_corrupted(is_day, day)
            for value in (list(day), day[:3], day + (0,), (day,), (day[0], list(day[1])) + day[2:], day[1], {0: day},
                          (day[0], day[1][0]) + day[2:], (day[0], ()) + day[2:], (day[0], day[1] + (None,)) + day[2:]):
                self.false(is_day(value), value)
            for at in range(4):
                self.refuses_junk(lambda value: is_day(day[:at] + (value,) + day[at + 1:]), 0, 1, 2)
        job = ("a", 1, 0, 0, 1)
        for value in (job[:4], job + (1,), list(job), job[1:], "a1001", None):
            self.false(is_day((3, (value,), 0, 0)), value)
        for at in range(1, 5):
            for number in (True, False, 1.0, "1", None, (1,)):
                self.false(is_day((3, (job[:at] + (number,) + job[at + 1:],), 0, 0)), (at, number))
        for day in ((True,) + TWO[1:], (3, TWO[1], False, 0), (3, TWO[1], 0, True)):
            self.false(is_day(day), day)


class TestPapers(ShopCase):
    """Points 27.2 and 27.3."""

    def test_small_days(self):
        day = (1, (("a", 1, 0, 0, 1),), 0, 0)
        start = (0, ((0, 1),), 0, 0)
        will = ((start, ((0,), 0), 0),)
        self.same(day_paper(day), ("held", will))
        for other in (will + will, (), ((start, ((0,), 0), -1),), ((start, ((), 0), 0),), ((start, ((0,), 1), 0),),
                      ((start, ((0,), 0), 1),), will + (((1, ((1, 0),), 0, 0), ((), 0), -1),), list(will), (list(will[0]),)):
            self.false(check_day(day, ("held", other)), other)
        for course in ((((0,), 0), ((-1, 0, 0), (0, 0, 0))), (((0,), 0), ((-1, 0, 0),)), (((), 0), ((-1, 0, 0),))):
            self.false(check_day(day, ("lost", course)), course)
        day = (1, (("a", 1, 0, 0, 1),), 1, 0)
        course = (((0,), 1), ((-1, 0, 0), (0, 0, 0)))
        self.same(day_paper(day), ("lost", course))
        for other in ((((0,), 0), course[1]), (((), 1), course[1]), (((0, 0), 1), course[1]), (((0,), 1), course[1][:1]),
                      (((0,), 1), course[1][::-1]), (((0,), 1), course[1] + ((1, 0, 0),)), (((0,), 1), ((-1, 0, 0), (0, 1, 0))),
                      (((0,), 1), ((-1, 0, 1), (0, 0, 0))), (((0,), 1), ((-1, 0, 0), (0, 0, course))), (((0,), 2), course[1]),
                      (((0,), True), course[1]), (((False,), 1), course[1]), (((0,), 1), ((-1, False, 0), (0, 0, 0))),
                      (((0,), 1), ((-1, 0, False), (0, 0, 0))), (((0,), 1), ((-1, 0, 0), (False, 0, 0)))):
            self.false(check_day(day, ("lost", other)), other)
        self.true(check_day(day, ("lost", course)))

    def test_days_that_can_just_be_held(self):
        for hours in range(1, 9):
            for work, last, failures, returns in itertools.product((1, 2, 3), range(0, 4), range(0, 4), range(0, 3)):
                day = (hours, (("a", work, 0, min(last, hours - 1), hours),), failures, returns)
                wanted = min(last, hours - 1) + work + failures + returns <= hours
                self.same(can_be_held(day), wanted, day)
        # Two jobs, of which one must wait for the other.
        self.true(can_be_held((4, (("a", 2, 0, 0, 4), ("b", 2, 0, 1, 3)), 0, 0)))
        self.false(can_be_held((4, (("a", 2, 0, 0, 4), ("b", 2, 0, 2, 3)), 0, 0)))
        self.false(can_be_held((4, (("a", 2, 0, 0, 4), ("b", 2, 0, 0, 4)), 1, 0)))
        self.false(can_be_held((4, (("a", 2, 0, 0, 4), ("b", 2, 0, 0, 4)), 0, 1)))
        # A paper that comes too late.
        self.false(can_be_held((4, (("a", 1, 0, 2, 2),), 0, 0)))
        self.false(can_be_held((4, (("a", 1, 0, 3, 2),), 0, 0)))

    def test_random_days(self):
        rng = random.Random(271)
        words = {"held": 0, "lost": 0}
        for _ in range(400):
            day = random_day(rng)
            held = told_held(day)
            self.same(self.pure(can_be_held, day), held, day)
            paper = self.pure(day_paper, day)
            self.same(paper[0], "held" if held else "lost", day)
            words[paper[0]] += 1
            self.true(self.pure(check_day, day, paper), day)
            if held:
                self.true(told_will(day, paper[1]))
            else:
                self.true(told_course(day, told_first(day), paper[1]))
        self.assertGreater(min(words.values()), 50)

    def test_all_wills_of_small_days(self):
        # All ways in which a shop may choose, not only the one of the program.
        for day in (D, TWO, (2, (("a", 1, 0, 0, 2), ("b", 1, 0, 0, 2)), 0, 0), (3, (("a", 1, 0, 1, 3),), 1, 0),
                    (3, (("a", 1, 0, 0, 3),), 0, 1), (3, (("a", 1, 0, 0, 2), ("b", 1, 1, 1, 3)), 0, 0)):
            rng = random.Random(272)
            found = {True: 0, False: 0}
            for _ in range(300):
                will = random_will(rng, day)
                wanted = told_will(day, will)
                self.same(check_day(day, ("held", will)), wanted, (day, will))
                found[wanted] += 1
                if wanted:
                    for other in changed_wills(rng, day, will):
                        self.same(check_day(day, ("held", other)), told_will(day, other), (day, other))
            self.assertGreater(min(found.values()), 0, day)

    def test_changed_wills(self):
        for day in (D, TWO, (5, (("a", 1, 0, 2, 5), ("b", 1, 0, 1, 5)), 1, 0)):
            will = day_paper(day)[1]
            for at, (state, move, choice) in enumerate(will):
                before, behind = will[:at], will[at + 1:]
                self.false(check_day(day, ("held", before + behind)))
                self.false(check_day(day, ("held", before + (will[at],) + will[at:])))
                for other in ((state, move, choice + 7), (state, move, -2), (state, move, None), (state, move, str(choice)),
                              (state, move, choice, choice), (state, move), (state, (move[0], 1 - move[1]), choice),
                              (state, ((), ()), choice), (state, move[0], choice), (state, (list(move[0]), move[1]), choice),
                              (state, (move[0], bool(move[1])), choice), ((float(state[0]),) + state[1:], move, choice),
                              (state[:2] + (False, 0), move, choice), (list(state), move, choice), [state, move, choice]):
                    self.false(check_day(day, ("held", before + (other,) + behind)), other)
                if choice == 0:
                    self.false(check_day(day, ("held", before + ((state, move, False),) + behind)))
            self.false(check_day(day, ("held", will[::-1])))
            self.false(check_day(day, ("held", list(will))))
            self.false(check_day(day, ("lost", will)))
            # One that is ascending, but tells of a state that cannot come.
            extra = (((day[0] + 1,) + will[-1][0][1:]), will[-1][1], -1)
            self.false(check_day(day, ("held", will + (extra,))))

    def test_changed_courses(self):
        rng = random.Random(273)
        checked = 0
        while checked < 60:
            day = random_day(rng, 4, 2)
            paper = day_paper(day)
            if paper[0] == "held":
                continue
            checked += 1
            for course in changed_courses(paper[1]):
                wanted = told_course(day, told_first(day), course)
                self.same(check_day(day, ("lost", course)), wanted, (day, course))

    def test_other_courses_are_right_too(self):
        rng = random.Random(274)
        found = {True: 0, False: 0}
        for _ in range(400):
            day = random_day(rng, 4, 2)
            course = random_course(rng, day, told_first(day))
            if course is None:
                continue
            wanted = told_course(day, told_first(day), course)
            self.same(check_day(day, ("lost", course)), wanted, (day, course))
            self.assertFalse(wanted and can_be_held(day))
            found[wanted] += 1
        self.assertGreater(found[True], 60)

    def test_wrong_values(self):
        # Only 0 and 1 tell whether a job is sent back, also where it may be.
        day = (1, (("a", 1, 0, 0, 1),), 0, 1)
        for back in (-1, 0, 1, 2, True, None):
            self.same(check_day(day, ("lost", (((0,), 0), ((-1, 0, 0), (0, back, 0))))), back is not True and back == 1)
        for day in (D, LOST, TWO, (2, (("a", 1, 0, 0, 1),), 1, 0)):
            paper = day_paper(day)
            held = paper[0] == "held"
            self.true(check_day(day, paper))
            for value in corrupted(paper):
                # To choose -1 instead may be right as well, but nothing of another kind.
                if check_day(day, value) is not False:
                    self.assertTrue(is_whole(value[1]), value)
                    right = told_will(day, value[1]) if held else told_course(day, told_first(day), value[1])
                    self.assertTrue(right, value)
            self.refuses_junk(lambda value: check_day(day, value))
            self.refuses_junk(lambda value: check_day(day, (paper[0], value)))
            self.refuses_junk(lambda value: check_day(day, (value, paper[1])))
            self.refuses_junk(lambda value: check_day(day, ("held", (value,))))
            self.refuses_junk(lambda value: check_day(day, ("lost", (value, paper[1][1]))))
            self.refuses_junk(lambda value: check_day(day, ("lost", (paper[1][0], value))))
            self.refuses_junk(lambda value: check_day(day, ("lost", (paper[1][0], (value,)))))
            for value in (paper[:1], paper + (1,), paper[1], (paper,), ("Held", paper[1]), (paper[0],), ("none", paper[1])):
                self.false(check_day(day, value), value)

    def test_never_both(self):
        rng = random.Random(275)
        for _ in range(200):
            day, other = random_day(rng), random_day(rng)
            paper = day_paper(other)
            if check_day(day, paper):
                self.same(can_be_held(day), paper[0] == "held")


def random_will(rng, day):
    """The entries of a shop that chooses somehow, but mostly does some work."""
    entries, coming = [], [told_first(day)]
    for state in coming:
        for move in told_moves(day, state):
            choices = told_choices(state, move)
            choice = rng.choice(choices[1:] or choices) if rng.random() < 0.85 else rng.choice(choices)
            entries.append((state, move, choice))
            for after in told_after(state, move, choice).values():
                if after[0] < day[0] and after not in coming:
                    coming.append(after)
    return tuple(sorted(entries))


def changed_wills(rng, day, will):
    """Yield wills with an entry left out, put in, doubled or with another choice."""
    at = rng.randrange(len(will))
    state, move, choice = will[at]
    yield will[:at] + will[at + 1:]
    yield will[:at] + will[at:at + 1] * 2 + will[at + 1:]
    for other in range(-2, len(day[1]) + 1):
        yield will[:at] + ((state, move, other),) + will[at + 1:]
        if other != choice:
            yield tuple(sorted(will + ((state, move, other),)))
    for left in (((1, 0),) * len(day[1]), ((0, 1),) * len(day[1])):
        strange = (rng.randint(0, day[0]), left, rng.randint(0, 1), 0)
        yield tuple(sorted(set(will + ((strange, ((), 0), -1),))))
    for other in ((move[0], 1 - move[1]), ((), 0), ((0,), 0), (tuple(range(len(day[1]))), 0)):
        yield tuple(sorted(set(will + ((state, other, choice),))))
        yield tuple(sorted(will[:at] + ((state, other, choice),) + will[at + 1:]))


def random_course(rng, day, state):
    """A course of some form in which chance does anything, or None if it would not end in time."""
    move = rng.choice(told_moves(day, state))
    answers = []
    for choice in told_choices(state, move):
        after = told_after(state, move, choice)
        back = rng.choice(sorted(after))
        rest = told_lost(day, after[back])
        if rest is None:
            if after[back][0] == day[0]:
                return None
            rest = random_course(rng, day, after[back])
            if rest is None:
                return None
        answers.append((choice, back, rest))
    return (move, tuple(answers))


def changed_courses(course):
    """Yield courses with another move, answer or job somewhere."""
    move, answers = course
    papers, fails = move
    for other in ((papers, 1 - fails), (papers + (1,), fails), (papers[1:], fails), (papers[::-1], fails), ((0,), fails), ((), fails)):
        yield (other, answers)
    yield (move, answers[1:])
    yield (move, answers[::-1])
    yield (move, answers + answers[-1:])
    for at, (choice, back, rest) in enumerate(answers):
        before, behind = answers[:at], answers[at + 1:]
        yield (move, before + behind)
        changed = [(choice + 1, back, rest), (choice, 1 - back, rest), (choice, 2, rest), (choice, -1, rest)]
        changed.append((choice, back, course))
        if isinstance(rest, int):
            changed += [(choice, back, rest + 1), (choice, back, 1 - rest), (choice, back, -1)]
        else:
            changed += [(choice, back, 0), (choice, back, 1)]
            changed += [(choice, back, other) for other in changed_courses(rest)]
        for answer in changed:
            yield (move, before + (answer,) + behind)


class TestWhatHelps(ShopCase):
    """Point 27.4."""

    def test_some(self):
        self.same(self.pure(most_failures_held, D), 1)
        self.same(can_be_held(D), True)
        self.same(self.pure(least_hours, D), 0)
        self.same(most_failures_held((8, (("a", 2, 0, 0, 8),), 0, 2)), 3)
        self.same(most_failures_held((4, (("a", 2, 0, 0, 4),), 3, 2)), 0)
        self.same(most_failures_held((4, (("a", 3, 0, 0, 4),), 0, 2)), -1)
        self.same(most_failures_held((4, (("a", 2, 0, 0, 4),), 3, 0)), 2)
        self.same(least_hours((4, (("a", 2, 0, 0, 1),), 0, 0)), 1)
        self.same(least_hours((4, (("a", 2, 0, 0, 1),), 1, 1)), 3)
        self.same(least_hours((4, (("a", 2, 0, 1, 1),), 1, 1)), None)
        self.same(least_hours((4, (("a", 2, 0, 0, 1), ("b", 2, 0, 0, 4)), 0, 0)), 1)
        # Those due at the end of the day are due no later.
        self.same(least_hours((4, (("a", 2, 0, 0, 1), ("b", 3, 0, 0, 4)), 0, 0)), None)

    def test_random_days(self):
        rng = random.Random(276)
        most, least = {}, {}
        for _ in range(300):
            hours, jobs, failures, returns = day = random_day(rng, 5)
            held = [number for number in range(4) if told_held((hours, jobs, number, returns))]
            wanted = max(held, default=-1)
            self.same(self.pure(most_failures_held, day), wanted, day)
            most[wanted] = True
            for later in range(hours + 1):
                moved = tuple(job[:4] + (min(hours, job[4] + later),) for job in jobs)
                if told_held((hours, moved, failures, returns)):
                    break
            else:
                later = None
            self.same(self.pure(least_hours, day), later, day)
            least[later] = True
        self.assertEqual(sorted(most), [-1, 0, 1, 2, 3])
        self.assertTrue({0, 1, 2, None} <= set(least))


class TestSoon(ShopCase):
    """Point 0.2: days with 3 jobs and 8 hours."""

    def test_three_jobs_and_eight_hours(self):
        rng = random.Random(277)
        words = {"held": 0, "lost": 0}
        days = [(8, (("a", 6, 0, 0, 8), ("b", 6, 0, 0, 8), ("c", 6, 0, 0, 8)), 0, 2),
                (8, (("a", 3, 0, 0, 8), ("b", 2, 0, 0, 8), ("c", 2, 0, 0, 8)), 0, 1),
                (8, (("a", 1, 0, 0, 8), ("b", 1, 0, 0, 8), ("c", 1, 0, 0, 8)), 3, 2),
                (8, (("a", 1, 0, 2, 8), ("b", 1, 0, 4, 8), ("c", 2, 0, 3, 8)), 1, 1)]
        for _ in range(80):
            jobs = []
            for word in "abc":
                last = rng.randint(0, rng.randint(0, 7))
                jobs.append((word, rng.choice((1, 1, 2, 3)), rng.randint(0, last), last, rng.choice((8, 8, 8, rng.randint(4, 8)))))
            days.append((8, tuple(jobs), rng.randint(0, 1), rng.randint(0, 1)))
        for day in days:
            paper = day_paper(day)
            words[paper[0]] += 1
            self.true(check_day(day, paper), day)
            self.same(can_be_held(day), paper[0] == "held")
            most_failures_held(day)
            least_hours(day)
        self.assertGreater(min(words.values()), 5)

    def test_twelve_hours(self):
        day = (12, tuple((word, 2, 0, 2, 12) for word in "abcd"), 1, 1)
        self.true(can_be_held(day))
        self.true(check_day(day, day_paper(day)))


if __name__ == "__main__":
    unittest.main()
