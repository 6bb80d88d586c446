"""What several tests need: strict comparisons, wrong values, and a model of paper.

The model says in another way what parts 1, 2 and 8 of the document say: each panel is a
square with coordinates, which motions and folds reflect. It shares no code with the program.
"""

import contextlib
import copy
import signal
import unittest

MOTIONS = ("stay", "turn", "tumble", "spin")


def deep(many, kind=tuple):
    """A value that is nested so many times."""
    value = 1
    for _ in range(many):
        value = kind([value])
    return value


JUNK = [
    None, True, False, 0, 1, 2, -1, 63, 10 ** 30, 0.0, 1.0, 1.5, float("nan"), float("inf"), 1j,
    "", "a", "book", "front", "column", "12", "ab", b"", b"ab", bytearray(b"ab"),
    (), [], {}, set(), frozenset(), range(2), object(), int, len,
    (1,), (1, 2), [1, 2], {1: 2}, {1, 2}, (1, 2, 3), (None, None), ((), ()), ([], []), ("a", "b"),
    ((1, 2),), [(1, 2)], ((1, 2), (3, 4)), (((1, 0),),), [[[1, 0]]], ((((0, 0, 0, 0, 0),),),),
    deep(200), deep(200, list), [deep(150)], (deep(199, list),),
]


def corrupted(value):
    """Yield values that are like a nested tuple but for one part of a wrong kind."""
    yield None
    yield {0: value}
    yield 0.5
    if isinstance(value, tuple):
        yield list(value)
        for at, part in enumerate(value):
            for other in corrupted(part):
                yield value[:at] + (other,) + value[at + 1:]
    elif isinstance(value, str):
        yield value.upper()
        yield value + " "
        yield value.encode()
        yield [value]
        yield (value,)
        yield list(value)
    else:
        yield bool(value)
        yield float(value)
        yield str(value)
        yield [value]
        yield (value,)
        yield -1


def is_strictly(value, wanted):
    """True if two values are equal and of the same kinds throughout."""
    if type(value) is not type(wanted):
        return False
    if isinstance(wanted, (list, tuple)):
        return len(value) == len(wanted) and all(map(is_strictly, value, wanted))
    if isinstance(wanted, dict):
        keys = {key: key for key in value}
        return len(value) == len(wanted) and all(
            key in keys and is_strictly(keys[key], key) and is_strictly(value[key], wanted[key]) for key in wanted)
    return value == wanted


class ShopCase(unittest.TestCase):
    """Tests with strict comparisons: True is not 1, and a list is not a tuple."""

    def same(self, value, wanted, told=None):
        if not is_strictly(value, wanted):
            self.fail(f"{value!r} is not {wanted!r} ({told!r})")

    def true(self, value, told=None):
        self.assertIs(value, True, told)

    def false(self, value, told=None):
        self.assertIs(value, False, told)

    def refuses_junk(self, test, *valid):
        for value in JUNK:
            if not any(is_strictly(value, other) for other in valid):
                self.false(test(value), value)

    def refuses_corrupted(self, test, value):
        self.true(test(value), value)
        for other in corrupted(value):
            self.false(test(other), other)

    def fails(self, error, function, *arguments, **fields):
        before = copy.deepcopy(arguments)
        try:
            value = function(*arguments)
        except Exception as caught:
            self.assertIs(type(caught), error, (function.__name__, arguments))
            for name, worth in fields.items():
                self.same(getattr(caught, name), worth, name)
        else:
            self.fail(f"{function.__name__}{arguments!r} returned {value!r}")
        self.same(arguments, before)

    def pure(self, function, *arguments):
        """The result of a call that changes no argument and gives a new result each time."""
        before = copy.deepcopy(arguments)
        first = function(*arguments)
        self.same(arguments, before, function.__name__)
        self.plain(first)
        wanted = copy.deepcopy(first)
        spoil(first)
        self.same(function(*arguments), wanted, function.__name__)
        self.same(arguments, before, function.__name__)
        return wanted

    def plain(self, value):
        """Check that a value is made of the kinds of values that the package returns."""
        self.assertIn(type(value), (int, bool, type(None), str, tuple, list, dict), value)
        if isinstance(value, (tuple, list)):
            for part in value:
                self.plain(part)
        if isinstance(value, dict):
            for key, part in value.items():
                self.plain(key)
                self.plain(part)


def spoil(value):
    """Change each list and dict in a result, so that one that is kept inside would show."""
    if isinstance(value, dict):
        for part in value.values():
            spoil(part)
        value["spoilt"] = None
    if isinstance(value, (list, tuple)):
        for part in value:
            spoil(part)
    if isinstance(value, list):
        value.append("spoilt")


@contextlib.contextmanager
def soon(seconds=60):
    """Fail if what stands inside does not end in some seconds."""
    def late(number, frame):
        raise AssertionError(f"not ended after {seconds} seconds")
    old = signal.signal(signal.SIGALRM, late)
    signal.alarm(seconds)
    try:
        yield
    finally:
        signal.alarm(0)
        signal.signal(signal.SIGALRM, old)


class Paper:
    """A stack: from each panel `(sheet, row, column)` to `(x, y, z, right, down)`.

    z grows upwards; `right` and `down` are 1 or -1: the direction on the table of what is
    the right and the lower direction on the panel as it is seen from its front.
    """

    def __init__(self, leaves):
        left = min(leaf[0] for leaf in leaves.values())
        top = min(leaf[1] for leaf in leaves.values())
        self.leaves = {key: (x - left, y - top, z, right, down) for key, (x, y, z, right, down) in leaves.items()}

    @classmethod
    def flat(cls, size, number=0):
        rows, columns = size
        return cls({(number, r, c): (c, r, 0, 1, 1) for r in range(rows) for c in range(columns)})

    @classmethod
    def of_stack(cls, stack):
        leaves = {}
        for y, row in enumerate(stack):
            for x, pile in enumerate(row):
                for z, (sheet, r, c, across, down) in enumerate(pile):
                    assert (sheet, r, c) not in leaves
                    leaves[sheet, r, c] = (x, y, z, 1 - 2 * across, 1 - 2 * down)
        return cls(leaves)

    def columns(self):
        return max(leaf[0] for leaf in self.leaves.values()) + 1

    def rows(self):
        return max(leaf[1] for leaf in self.leaves.values()) + 1

    def stack(self):
        piles = [[[] for _ in range(self.columns())] for _ in range(self.rows())]
        for (sheet, r, c), (x, y, z, right, down) in sorted(self.leaves.items(), key=lambda item: item[1][2]):
            piles[y][x].append((sheet, r, c, (1 - right) // 2, (1 - down) // 2))
        return tuple(tuple(tuple(pile) for pile in row) for row in piles)

    def moved(self, motion):
        x_sign = -1 if motion in ("turn", "spin") else 1
        y_sign = -1 if motion in ("tumble", "spin") else 1
        return Paper({
            key: (x_sign * x, y_sign * y, x_sign * y_sign * z, x_sign * right, y_sign * down)
            for key, (x, y, z, right, down) in self.leaves.items()})

    def has_line(self, axis, line):
        return 1 <= line < (self.columns() if axis == "column" else self.rows())

    def folded(self, fold):
        axis, line, part, place = fold
        if not self.has_line(axis, line):
            return None
        highest = max(leaf[2] for leaf in self.leaves.values())
        lowest = min(leaf[2] for leaf in self.leaves.values())
        mirror = 2 * highest + 1 if place == "over" else 2 * lowest - 1
        leaves = {}
        for key, (x, y, z, right, down) in self.leaves.items():
            at = x if axis == "column" else y
            if (at < line) != (part == "low"):
                leaves[key] = (x, y, z, right, down)
            elif axis == "column":
                leaves[key] = (2 * line - 1 - x, y, mirror - z, -right, down)
            else:
                leaves[key] = (x, 2 * line - 1 - y, mirror - z, right, -down)
        return Paper(leaves)

    def cut(self, axis, line):
        where = 0 if axis == "column" else 1
        low = {key: leaf for key, leaf in self.leaves.items() if leaf[where] < line}
        high = {key: leaf for key, leaf in self.leaves.items() if leaf[where] >= line}
        return Paper(low), Paper(high)

    def under(self, other):
        """This stack with another one laid on it."""
        lift = max(leaf[2] for leaf in self.leaves.values()) + 1
        lift -= min(leaf[2] for leaf in other.leaves.values())
        leaves = dict(self.leaves)
        for key, (x, y, z, right, down) in other.leaves.items():
            leaves[key] = (x, y, z + lift, right, down)
        return Paper(leaves)

    def top(self):
        """From each place to the panel side that is seen there, and 1 if it is upside down."""
        seen = {}
        for key, (x, y, z, right, down) in sorted(self.leaves.items(), key=lambda item: item[1][2]):
            seen[y, x] = (key + ("front" if right == down else "back",), int(down < 0))
        return seen

    def read(self):
        """The list of the panel sides of a stack of one place as they are read, each with its flip."""
        assert self.columns() == self.rows() == 1
        found = []
        for key, leaf in sorted(self.leaves.items(), key=lambda item: -item[1][2]):
            leafs_own = Paper({key: leaf})
            found.append(leafs_own.top()[0, 0])
            found.append(leafs_own.moved("turn").top()[0, 0])
        return found


def paper_folded(size, folds):
    """The paper after a row of folds, or None if one cannot be done."""
    paper = Paper.flat(size)
    for fold in folds:
        paper = paper.folded(fold)
        if paper is None:
            return None
    return paper


def content_of(lay):
    """From each panel side `(0, row, column, side)` of a sheet to the face printed there."""
    front, back = lay
    size = (len(front), len(front[0]))
    content = {}
    for plate, motion in ((front, "stay"), (back, "turn")):
        for (y, x), (side, flip) in Paper.flat(size).moved(motion).top().items():
            page, printed_flip = plate[y][x]
            content[side] = (page, printed_flip ^ flip if page else 0)
    return content


def plate_seen(paper, content):
    """The plate that is seen from above."""
    seen = paper.top()
    rows = []
    for y in range(paper.rows()):
        row = []
        for x in range(paper.columns()):
            side, flip = seen[y, x]
            page, printed_flip = content[side]
            row.append((page, printed_flip ^ flip if page else 0))
        rows.append(tuple(row))
    return tuple(rows)


def lay_seen(paper, content):
    """The lay that is seen: what is up, and what is up after `turn`."""
    return (plate_seen(paper, content), plate_seen(paper.moved("turn"), content))


def all_folds(rows, columns):
    """All folds of a stack of so many rows and columns, in the order of Python."""
    lines = [("column", line) for line in range(1, columns)] + [("row", line) for line in range(1, rows)]
    return [(axis, line, part, place) for axis, line in lines for part in ("high", "low") for place in ("over", "under")]


def random_folds(rng, size, full=True):
    """A random row of folds that can be done."""
    rows, columns = size
    folds = []
    while (rows, columns) != (1, 1) and (full or rng.random() < 0.8):
        fold = rng.choice(all_folds(rows, columns))
        if fold[0] == "column":
            columns = max(fold[1], columns - fold[1])
        else:
            rows = max(fold[1], rows - fold[1])
        folds.append(fold)
    return tuple(folds)


def random_plate(rng, size, last_page=9):
    """A random plate of a size."""
    rows, columns = size
    pages = [[rng.randint(0, last_page) for _ in range(columns)] for _ in range(rows)]
    return tuple(tuple((page, rng.randint(0, 1) if page else 0) for page in row) for row in pages)


def random_lay(rng, size, last_page=9):
    """A random lay of a size."""
    return (random_plate(rng, size, last_page), random_plate(rng, size, last_page))


def small_sizes(most):
    """All sizes with at most so many panels."""
    return [(r, c) for r in range(1, 17) for c in range(1, 17) if r * c <= most]


def full_rows(size):
    """All full rows of folds of a size."""
    found = []

    def go(rows, columns, folds):
        if (rows, columns) == (1, 1):
            found.append(folds)
        for fold in all_folds(rows, columns):
            if fold[0] == "column":
                go(rows, max(fold[1], columns - fold[1]), folds + (fold,))
            else:
                go(max(fold[1], rows - fold[1]), columns, folds + (fold,))

    go(size[0], size[1], ())
    return found
