"""Part 19: what must be printed anew."""

import random
import unittest

from foldandbound.errors import NoThing
from foldandbound.logs import anew, holds, is_log, spoilt_by
from tests.support import ShopCase

P = ("printed", "p", (1, 2))
Q = ("printed", "q", (3,))
LOG = (P, Q, ("printed", "r", ()), ("joined", "book", ("p", "q")), ("split", "book", ("left", "right")),
       ("sent", "left"), ("joined", "all", ("right", "r")))
NAMES = [first + second for first in "abcdefgh" for second in "abcdefgh"]


def sheets(many):
    """Entries of so many printed sheets, each with one page."""
    return tuple(("printed", NAMES[k], (k + 1,)) for k in range(many))


def told_there(log):
    """The names of the things that are there after a log, and of all that were made; None if it is no log."""
    there, made = set(), set()
    for kind, name, *rest in log:
        if kind == "printed":
            used, new = [], [name]
        elif kind == "joined":
            used, new = list(rest[0]), [name]
        elif kind == "split":
            used, new = [name], list(rest[0])
        else:
            used, new = [name], []
        if len(set(used)) < len(used) or not set(used) <= there or len(set(new)) < len(new) or set(new) & made:
            return None
        there = (there - set(used)) | set(new)
        made |= set(new)
    return there, made


def told_sheets(log, name):
    """The names of the sheets in a thing."""
    for entry in log:
        if entry[0] == "printed" and entry[1] == name:
            return {name}
        if entry[0] == "joined" and entry[1] == name:
            return set().union(*[told_sheets(log, part) for part in entry[2]])
        if entry[0] == "split" and name in entry[2]:
            return told_sheets(log, entry[1])
    raise AssertionError(name)


def told_pages(log, names):
    pages = {entry[1]: entry[2] for entry in log if entry[0] == "printed"}
    return sorted({page for name in names for sheet in told_sheets(log, name) for page in pages[sheet]})


def random_entry(rng, there, fresh, pages):
    """A random entry that can be."""
    kinds = ["printed"] + ["joined", "split", "sent", "joined"] * (len(there) > 0)
    kind = rng.choice(kinds)
    if kind == "printed":
        return (kind, next(fresh), tuple(sorted(rng.sample(range(1, pages + 1), rng.randint(0, 3)))))
    if kind == "joined":
        parts = rng.sample(sorted(there), rng.randint(1, min(8, len(there))))
        return (kind, next(fresh), tuple(parts))
    if kind == "split":
        return (kind, rng.choice(sorted(there)), tuple(next(fresh) for _ in range(rng.randint(2, 4))))
    return (kind, rng.choice(sorted(there)))


def random_log(rng, many, pages=5):
    fresh = iter(rng.sample([a + b + c for a in "abcdef" for b in "abcdef" for c in "abcdef"], 216))
    log = ()
    while len(log) < many:
        log += (random_entry(rng, told_there(log)[0], fresh, pages),)
    return log


class TestIsLog(ShopCase):
    """Point 19.1."""

    def test_some(self):
        for log in ((), (P,), LOG, (P, ("sent", "p")), (P, ("joined", "a", ("p",))), (P, ("split", "p", ("a", "b"))),
                    (P, Q, ("joined", "a", ("q", "p")))):
            self.true(self.pure(is_log, log), log)

    def test_numbers_of_entries(self):
        for many in (0, 1, 59, 60, 61, 64):
            self.same(is_log(sheets(many)), many <= 60, many)

    def test_pages(self):
        for pages in ((), (1,), (9999,), (1, 9999), (1, 2, 3), tuple(range(1, 10000))):
            self.true(is_log((("printed", "a", pages),)))
        for pages in ((0,), (-1,), (10000,), (1, 10000), (0, 1), (2, 1), (1, 1), (1, 2, 2), (3, 1, 2), [1], [], {1: 2},
                      (True,), (1.0,), ("1",), (None,), ((1,),), "", None, 1):
            self.false(is_log((("printed", "a", pages),)), pages)

    def test_numbers_of_parts(self):
        for many in range(0, 11):
            names = tuple(NAMES[:many])
            self.same(is_log(sheets(10) + (("joined", "z", names),)), 1 <= many <= 8, many)
            self.same(is_log((P, ("split", "p", names))), 2 <= many <= 8, many)

    def test_names_that_are_made_twice(self):
        for log in ((P, P), (P, ("printed", "p", ())), (P, Q, ("joined", "p", ("q",))), (P, ("joined", "p", ("p",))),
                    (P, ("split", "p", ("a", "a"))), (P, ("split", "p", ("a", "p"))), (P, ("sent", "p"), P),
                    (P, Q, ("split", "p", ("a", "q"))), (P, ("joined", "a", ("p",)), ("printed", "p", ())),
                    (P, ("split", "p", ("a", "b")), ("printed", "a", ()))):
            self.false(is_log(log), log)

    def test_things_that_are_not_there(self):
        gone = ((("sent", "p"),), (("joined", "a", ("p",)),), (("split", "p", ("a", "b")),))
        for entry in (("sent", "p"), ("joined", "c", ("p",)), ("joined", "c", ("p", "q")), ("joined", "c", ("q", "p")),
                      ("split", "p", ("c", "d"))):
            self.true(is_log((P, Q, entry)), entry)
            for before in gone:
                self.false(is_log((P, Q) + before + (entry,)), (before, entry))
            # Not yet made, or never.
            self.false(is_log((Q, entry, P)), entry)
            self.false(is_log((Q, entry)), entry)
        self.false(is_log((P, ("joined", "a", ("a",)))))
        self.false(is_log((P, Q, ("joined", "a", ("p", "p")))))
        self.false(is_log((P, Q, ("joined", "a", ("p", "q", "p")))))

    def test_words(self):
        for word in ("", "A", "a b", "abcdefghijklm", "a1", "\u00e9", 1, True, None, ("a",), ["a"], b"a", {}):
            for log in ((("printed", word, ()),), (P, ("sent", word)), (P, ("joined", word, ("p",))),
                        (P, ("joined", "a", (word,))), (P, ("joined", "a", ("p", word))), (P, ("split", word, ("a", "b"))),
                        (P, ("split", "p", ("a", word)))):
                self.false(is_log(log), log)
        self.true(is_log((("printed", "abcdefghijkl", ()), ("sent", "abcdefghijkl"))))

    def test_wrong_values(self):
        self.refuses_junk(is_log, ())
        self.refuses_corrupted(is_log, LOG)
        for at, entry in enumerate(LOG):
            before = LOG[:at]
            self.true(is_log(before + (entry,)))
            self.refuses_junk(lambda value: is_log(before + (value,)))
            for value in (entry[:-1], entry + (1,), entry[1:], list(entry), (entry,), (entry[0].upper(),) + entry[1:]):
                self.false(is_log(before + (value,)), value)
        for value in (("sent", "p", ()), ("sent",), ("printed", "a"), ("joined", "a"), ("split", "p"), ("cut", "p"),
                      ("joined", "a", "p"), ("joined", "a", ["p"]), ("split", "p", ["a", "b"]), ("split", "p", "ab"),
                      ("joined", "a", {"p": 1}), ("joined", ("p",), "a"), (["sent"], "p"), (1, "p"), (None, "p")):
            self.false(is_log((P, value)), value)
        for value in (list(LOG), P, (LOG,), {0: P}, "sent p"):
            self.false(is_log(value), value)

    def test_random_entries(self):
        rng = random.Random(191)
        found = {True: 0, False: 0}
        for _ in range(3000):
            log = []
            for _ in range(rng.randint(1, 5)):
                kind = rng.choice(("printed", "joined", "split", "sent", "printed"))
                name, names = rng.choice("abcd"), tuple(rng.choice("abcdef") for _ in range(rng.randint(1, 3)))
                log.append({"printed": (kind, name, (1,)), "joined": (kind, name, names), "sent": (kind, name),
                            "split": (kind, name, names + ("g",))}[kind])
            log = tuple(log)
            wanted = told_there(log) is not None
            self.same(is_log(log), wanted, log)
            found[wanted] += 1
        self.assertGreater(min(found.values()), 200)


class TestPagesInThings(ShopCase):
    """Points 19.2 and 19.3."""

    def test_some(self):
        for name, pages in (("p", [1, 2]), ("q", [3]), ("r", []), ("book", [1, 2, 3]), ("left", [1, 2, 3]),
                            ("right", [1, 2, 3]), ("all", [1, 2, 3])):
            self.same(self.pure(holds, LOG, name), pages, name)
        self.same(self.pure(spoilt_by, LOG, 1), (["left"], ["all"]))
        self.same(self.pure(anew, LOG, 3), [1, 2, 3])
        self.same(spoilt_by(LOG, 4), ([], []))
        self.same(anew(LOG, 4), [])
        self.same(spoilt_by((), 1), ([], []))
        self.same(anew((), 1), [])
        self.same(spoilt_by((P, Q), 3), ([], ["q"]))
        self.same(anew((P, Q), 3), [3])

    def test_names_that_were_never_made(self):
        for name in ("a", "left", "pp", "book"):
            self.fails(NoThing, holds, (P, Q), name)
        self.fails(NoThing, holds, (), "a")
        # What is gone was made.
        self.same(holds((P, ("sent", "p")), "p"), [1, 2])

    def test_one_page_on_several_sheets(self):
        log = (("printed", "a", (1, 5)), ("printed", "b", (1, 7)), ("printed", "c", (9,)), ("joined", "d", ("b", "c")),
               ("sent", "d"))
        self.same(spoilt_by(log, 1), (["d"], ["a"]))
        self.same(anew(log, 1), [1, 5, 7, 9])
        self.same(anew(log, 9), [1, 7, 9])
        self.same(holds(log, "d"), [1, 7, 9])

    def test_through_several_joinings_and_splittings(self):
        log = (P, Q, ("split", "p", ("b", "a")), ("joined", "c", ("a", "q")), ("joined", "d", ("c", "b")),
               ("split", "d", ("z", "y", "x")), ("sent", "z"), ("sent", "x"))
        self.same(spoilt_by(log, 2), (["x", "z"], ["y"]))
        self.same(spoilt_by(log, 3), (["x", "z"], ["y"]))
        self.same(holds(log, "b"), [1, 2])
        self.same(holds(log, "x"), [1, 2, 3])
        self.same(anew(log, 1), [1, 2, 3])

    def test_random_logs(self):
        rng = random.Random(192)
        for _ in range(150):
            log = random_log(rng, rng.randint(0, 14))
            self.true(is_log(log), log)
            there, made = told_there(log)
            for name in made:
                self.same(self.pure(holds, log, name), told_pages(log, [name]), (log, name))
            for page in range(1, 7):
                bad = {name for name in made if page in told_pages(log, [name])}
                sent = sorted(entry[1] for entry in log if entry[0] == "sent" and entry[1] in bad)
                wanted = (sent, sorted(bad & there))
                self.same(self.pure(spoilt_by, log, page), wanted, (log, page))
                self.same(self.pure(anew, log, page), told_pages(log, wanted[0] + wanted[1]), (log, page))

    def test_long_logs_end_soon(self):
        rng = random.Random(193)
        log = random_log(rng, 60)
        self.true(is_log(log))
        anew(log, 1)
        # Split and joined again and again: each time there are more ways to the one sheet.
        log = (("printed", "p", tuple(range(1, 10000))),)
        name = "p"
        for k in range(29):
            parts = tuple(NAMES[k] + letter for letter in "abcdefgh")
            log += (("split", name, parts), ("joined", NAMES[k], parts))
            name = NAMES[k]
        self.true(is_log(log))
        self.same(spoilt_by(log, 9999), ([], [name]))
        self.same(anew(log, 1), list(range(1, 10000)))


if __name__ == "__main__":
    unittest.main()
