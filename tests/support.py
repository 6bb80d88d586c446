"""What several tests need: strict comparisons, wrong values, and a model of paper.

The model says in another way what parts 1, 2 and 8 of the document say: each panel is a
square with coordinates, which motions and folds reflect. It shares no code with the program.
"""

import copy
import signal
import unittest

MOTIONS = ("stay", "turn", "tumble", "spin")


def deep(many, kind=tuple):
    """A value that is nested so many times."""
    value = 1
    for _ in range(many):
        value = kind([value])
    return value


JUNK = [
    None, True, False, 0, 1, 2, -1, 63, 10 ** 30, 0.0, 1.0, 1.5, float("nan"), float("inf"), 1j,
    "", "a", "book", "front", "column", "12", "ab", b"", b"ab", bytearray(b"ab"),
    (), [], {}, set(), frozenset(), range(2), object(), int, len,
    (1,), (1, 2), [1, 2], {1: 2}, {1, 2}, (1, 2, 3), (None, None), ((), ()), ([], []), ("a", "b"),
    ((1, 2),), [(1, 2)], ((1, 2), (3, 4)), (((1, 0),),), [[[1, 0]]], ((((0, 0, 0, 0, 0),),),),
    deep(200), deep(200, list), [deep(150)], (deep(199, list),),
]


def corrupted(value):
    """Yield values that are like a nested tuple but for one part of a wrong kind."""
    yield None
    yield {0: value}
    yield 0.5
    if isinstance(value, tuple):
        yield list(value)
        for at, part in enumerate(value):
            for other in corrupted(part):
                yield value[:at] + (other,) + value[at + 1:]
    elif isinstance(value, str):
        yield value.upper()
        yield value + " "
        yield value.encode()
        yield [value]
        yield (value,)
        yield list(value)
    else:
        yield bool(value)
        yield float(value)
        yield str(value)
        yield [value]
        yield (value,)
        yield -1


def is_strictly(value, wanted):
    """True if two values are equal and of the same kinds throughout."""
    if type(value) is not type(wanted):
        return False
    if isinstance(wanted, (list, tuple)):
        return len(value) == len(wanted) and all(map(is_strictly, value, wanted))
    if isinstance(wanted, dict):
        keys = {key: key for key in value}
        return len(value) == len(wanted) and all(
            key in keys and is_strictly(keys[key], key) and is_strictly(value[key], wanted[key]) for key in wanted)
    return value == wanted


class ShopCase(unittest.TestCase):
    """Tests with strict comparisons: True is not 1, and a list is not a tuple.

    Each test has to end soon; all calls in them have the sizes for which the document says so.
    """

    SECONDS = 120

    def setUp(self):
        def late(number, frame):
            raise AssertionError(f"not ended after {self.SECONDS} seconds")
        self.addCleanup(signal.signal, signal.SIGALRM, signal.signal(signal.SIGALRM, late))
        self.addCleanup(signal.alarm, 0)
        signal.alarm(self.SECONDS)

    def same(self, value, wanted, told=None):
        if not is_strictly(value, wanted):
            self.fail(f"{value!r} is not {wanted!r} ({told!r})")

    def true(self, value, told=None):
        self.assertIs(value, True, told)

    def false(self, value, told=None):
        self.assertIs(value, False, told)

    def refuses_junk(self, test, *valid):
        for value in JUNK:
            if not any(is_strictly(value, other) for other in valid):
                self.false(test(value), value)

    def refuses_corrupted(self, test, value):
        self.true(test(value), value)
        for other in corrupted(value):
            self.false(test(other), other)

    def fails(self, error, function, *arguments, **fields):
        before = copy.deepcopy(arguments)
        try:
            value = function(*arguments)
        except Exception as caught:
            self.assertIs(type(caught), error, (function.__name__, arguments))
            for name, worth in fields.items():
                self.same(getattr(caught, name), worth, name)
        else:
            self.fail(f"{function.__name__}{arguments!r} returned {value!r}")
        self.same(arguments, before)

    def pure(self, function, *arguments):
        """The result of a call that changes no argument and gives a new result each time."""
        before = copy.deepcopy(arguments)
        first = function(*arguments)
        self.same(arguments, before, function.__name__)
        self.plain(first)
        wanted = copy.deepcopy(first)
        spoil(first)
        self.same(function(*arguments), wanted, function.__name__)
        self.same(arguments, before, function.__name__)
        return wanted

    def plain(self, value):
        """Check that a value is made of the kinds of values that the package returns."""
        self.assertIn(type(value), (int, bool, type(None), str, tuple, list, dict), value)
        if isinstance(value, (tuple, list)):
            for part in value:
                self.plain(part)
        if isinstance(value, dict):
            for key, part in value.items():
                self.plain(key)
                self.plain(part)


def spoil(value):
    """Change each list and dict in a result, so that one that is kept inside would show."""
    if isinstance(value, dict):
        for part in value.values():
            spoil(part)
        value["spoilt"] = None
    if isinstance(value, (list, tuple)):
        for part in value:
            spoil(part)
    if isinstance(value, list):
        value.append("spoilt")


class Paper:
    """A stack: from each panel `(sheet, row, column)` to `(x, y, z, right, down)`.

    z grows upwards; `right` and `down` are 1 or -1: the direction on the table of what is
    the right and the lower direction on the panel as it is seen from its front.
    """

    def __init__(self, leaves):
        left = min(leaf[0] for leaf in leaves.values())
        top = min(leaf[1] for leaf in leaves.values())
        self.leaves = {key: (x - left, y - top, z, right, down) for key, (x, y, z, right, down) in leaves.items()}

    @classmethod
    def flat(cls, size, number=0):
        rows, columns = size
        return cls({(number, r, c): (c, r, 0, 1, 1) for r in range(rows) for c in range(columns)})

    @classmethod
    def of_stack(cls, stack):
        leaves = {}
        for y, row in enumerate(stack):
            for x, pile in enumerate(row):
                for z, (sheet, r, c, across, down) in enumerate(pile):
                    assert (sheet, r, c) not in leaves
                    leaves[sheet, r, c] = (x, y, z, 1 - 2 * across, 1 - 2 * down)
        return cls(leaves)

    def columns(self):
        return max(leaf[0] for leaf in self.leaves.values()) + 1

    def rows(self):
        return max(leaf[1] for leaf in self.leaves.values()) + 1

    def stack(self):
        piles = [[[] for _ in range(self.columns())] for _ in range(self.rows())]
        for (sheet, r, c), (x, y, z, right, down) in sorted(self.leaves.items(), key=lambda item: item[1][2]):
            piles[y][x].append((sheet, r, c, (1 - right) // 2, (1 - down) // 2))
        return tuple(tuple(tuple(pile) for pile in row) for row in piles)

    def moved(self, motion):
        x_sign = -1 if motion in ("turn", "spin") else 1
        y_sign = -1 if motion in ("tumble", "spin") else 1
        return Paper({
            key: (x_sign * x, y_sign * y, x_sign * y_sign * z, x_sign * right, y_sign * down)
            for key, (x, y, z, right, down) in self.leaves.items()})

    def has_line(self, axis, line):
        return 1 <= line < (self.columns() if axis == "column" else self.rows())

    def folded(self, fold):
        axis, line, part, place = fold
        if not self.has_line(axis, line):
            return None
        highest = max(leaf[2] for leaf in self.leaves.values())
        lowest = min(leaf[2] for leaf in self.leaves.values())
        mirror = 2 * highest + 1 if place == "over" else 2 * lowest - 1
        leaves = {}
        for key, (x, y, z, right, down) in self.leaves.items():
            at = x if axis == "column" else y
            if (at < line) != (part == "low"):
                leaves[key] = (x, y, z, right, down)
            elif axis == "column":
                leaves[key] = (2 * line - 1 - x, y, mirror - z, -right, down)
            else:
                leaves[key] = (x, 2 * line - 1 - y, mirror - z, right, -down)
        return Paper(leaves)

    def cut(self, axis, line):
        where = 0 if axis == "column" else 1
        low = {key: leaf for key, leaf in self.leaves.items() if leaf[where] < line}
        high = {key: leaf for key, leaf in self.leaves.items() if leaf[where] >= line}
        return Paper(low), Paper(high)

    def under(self, other):
        """This stack with another one laid on it."""
        lift = max(leaf[2] for leaf in self.leaves.values()) + 1
        lift -= min(leaf[2] for leaf in other.leaves.values())
        leaves = dict(self.leaves)
        for key, (x, y, z, right, down) in other.leaves.items():
            leaves[key] = (x, y, z + lift, right, down)
        return Paper(leaves)

    def top(self):
        """From each place to the panel side that is seen there, and 1 if it is upside down."""
        seen = {}
        for key, (x, y, z, right, down) in sorted(self.leaves.items(), key=lambda item: item[1][2]):
            seen[y, x] = (key + ("front" if right == down else "back",), int(down < 0))
        return seen

    def read(self):
        """The list of the panel sides of a stack of one place as they are read, each with its flip."""
        assert self.columns() == self.rows() == 1
        found = []
        for key, leaf in sorted(self.leaves.items(), key=lambda item: -item[1][2]):
            leafs_own = Paper({key: leaf})
            found.append(leafs_own.top()[0, 0])
            found.append(leafs_own.moved("turn").top()[0, 0])
        return found


def paper_folded(size, folds):
    """The paper after a row of folds, or None if one cannot be done."""
    paper = Paper.flat(size)
    for fold in folds:
        paper = paper.folded(fold)
        if paper is None:
            return None
    return paper


def content_of(lay):
    """From each panel side `(0, row, column, side)` of a sheet to the face printed there."""
    front, back = lay
    size = (len(front), len(front[0]))
    content = {}
    for plate, motion in ((front, "stay"), (back, "turn")):
        for (y, x), (side, flip) in Paper.flat(size).moved(motion).top().items():
            page, printed_flip = plate[y][x]
            content[side] = (page, printed_flip ^ flip if page else 0)
    return content


def plate_seen(paper, content):
    """The plate that is seen from above."""
    seen = paper.top()
    rows = []
    for y in range(paper.rows()):
        row = []
        for x in range(paper.columns()):
            side, flip = seen[y, x]
            page, printed_flip = content[side]
            row.append((page, printed_flip ^ flip if page else 0))
        rows.append(tuple(row))
    return tuple(rows)


def lay_seen(paper, content):
    """The lay that is seen: what is up, and what is up after `turn`."""
    return (plate_seen(paper, content), plate_seen(paper.moved("turn"), content))


def all_folds(rows, columns):
    """All folds of a stack of so many rows and columns, in the order of Python."""
    lines = [("column", line) for line in range(1, columns)] + [("row", line) for line in range(1, rows)]
    return [line + (part, place) for line in lines for part in ("high", "low") for place in ("over", "under")]


def random_folds(rng, size, full=True):
    """A random row of folds that can be done."""
    rows, columns = size
    folds = []
    while (rows, columns) != (1, 1) and (full or rng.random() < 0.8):
        fold = rng.choice(all_folds(rows, columns))
        if fold[0] == "column":
            columns = max(fold[1], columns - fold[1])
        else:
            rows = max(fold[1], rows - fold[1])
        folds.append(fold)
    return tuple(folds)


def random_plate(rng, size, last_page=9):
    """A random plate of a size."""
    rows, columns = size
    pages = [[rng.randint(0, last_page) for _ in range(columns)] for _ in range(rows)]
    return tuple(tuple((page, rng.randint(0, 1) if page else 0) for page in row) for row in pages)


def random_lay(rng, size, last_page=9):
    """A random lay of a size."""
    return (random_plate(rng, size, last_page), random_plate(rng, size, last_page))


def small_sizes(most):
    """All sizes with at most so many panels."""
    return [(r, c) for r in range(1, 17) for c in range(1, 17) if r * c <= most]


def full_rows(size):
    """All full rows of folds of a size."""
    found = []

    def go(rows, columns, folds):
        if (rows, columns) == (1, 1):
            found.append(folds)
        for fold in all_folds(rows, columns):
            if fold[0] == "column":
                go(rows, max(fold[1], columns - fold[1]), folds + (fold,))
            else:
                go(max(fold[1], rows - fold[1]), columns, folds + (fold,))

    go(size[0], size[1], ())
    return found


class PaperShop:
    """What a job book does with paper: stacks under names, and what was printed on."""

    def __init__(self):
        self.papers = {}
        self.prints = {}
        self.sheets = 0

    def do(self, step):
        """Do a step; False, and nothing is changed, if it cannot be done."""
        kind, name, rest = step[0], step[1], step[2:]
        if (name in self.papers) == (kind == "sheet"):
            return False
        return getattr(self, "do_" + kind)(name, *rest)

    def do_sheet(self, name, size):
        self.papers[name] = Paper.flat(size, self.sheets)
        self.sheets += 1
        return True

    def do_print(self, name, plate):
        paper = self.papers[name]
        if len(paper.leaves) != paper.rows() * paper.columns():
            return False
        found = {}
        for key, (x, y, _, right, down) in paper.leaves.items():
            found[key + ("front" if right == down else "back",)] = (plate, (y, x), int(down < 0))
        if set(found) & set(self.prints):
            return False
        self.prints.update(found)
        return True

    def do_turn(self, name, motion):
        self.papers[name] = self.papers[name].moved(motion)
        return True

    def do_fold(self, name, fold):
        paper = self.papers[name].folded(fold)
        if paper is None:
            return False
        self.papers[name] = paper
        return True

    def do_cut(self, name, axis, line, other):
        if other in self.papers or not self.papers[name].has_line(axis, line):
            return False
        self.papers[name], self.papers[other] = self.papers[name].cut(axis, line)
        return True

    def do_lay(self, name, other):
        if name == other or other not in self.papers:
            return False
        lower, upper = self.papers[name], self.papers[other]
        if (lower.rows(), lower.columns()) != (upper.rows(), upper.columns()):
            return False
        self.papers[name] = lower.under(upper)
        del self.papers[other]
        return True

    def book(self):
        """The paper of the book, or None if there is none of one place."""
        paper = self.papers.get("book")
        if paper is None or (paper.rows(), paper.columns()) != (1, 1):
            return None
        return paper

    def makes(self):
        """What is read in the book, or None if there is no book."""
        if self.book() is None:
            return None
        found = []
        for side, flip in self.book().read():
            if side in self.prints:
                plate, (row, column), spin = self.prints[side]
                found.append((plate, row, column, flip ^ spin))
            else:
                found.append(None)
        return found


def shop_after(job):
    """The shop after a job book, and the number of the first step that cannot be done, or None."""
    shop = PaperShop()
    for at, step in enumerate(job):
        if not shop.do(step):
            return shop, at
    return shop, None


def made_by(job):
    """What a job book makes: a list, `NoBook`, or the number of the first bad step."""
    shop, bad = shop_after(job)
    if bad is not None:
        return bad
    made = shop.makes()
    return "NoBook" if made is None else made


def random_step(rng, names=("book", "a", "b"), plates=("p", "q")):
    """A random step, which often cannot be done."""
    kind = rng.choice(("sheet", "print", "turn", "fold", "cut", "lay"))
    name, other = rng.choice(names), rng.choice(names)
    axis = rng.choice(("column", "row"))
    return {
        "sheet": ("sheet", name, rng.choice([(1, 1), (1, 2), (2, 1), (2, 2), (1, 3), (3, 2)])),
        "print": ("print", name, rng.choice(plates)),
        "turn": ("turn", name, rng.choice(MOTIONS)),
        "fold": ("fold", name, (axis, rng.choice((1, 1, 1, 2, 3)), rng.choice(("low", "high")),
                                rng.choice(("over", "under")))),
        "cut": ("cut", name, axis, rng.choice((1, 1, 1, 2, 3)), other),
        "lay": ("lay", name, other),
    }[kind]


def random_job(rng, most, luck=0.9):
    """A random job book of which most steps, but not always all, can be done."""
    shop = PaperShop()
    job = []
    while len(job) < most:
        step = random_step(rng)
        if shop.do(step):
            job.append(step)
        elif rng.random() > luck and rng.random() < 0.02:
            job.append(step)
            break
        elif not shop.papers and rng.random() < 0.5:
            shop.do(("sheet", "book", (2, 2)))
            job.append(("sheet", "book", (2, 2)))
    return tuple(job)


def printed_both_sides(rng, name, size, plates):
    """Steps that print a new sheet on one or both sides, or not, and leave it turned somehow."""
    steps = [("sheet", name, size)]
    for _ in range(rng.choice((0, 1, 2, 2, 2))):
        steps.append(("print", name, rng.choice(plates)))
        steps.append(("turn", name, rng.choice(("turn", "tumble"))))
    if rng.random() < 0.5:
        steps.append(("turn", name, rng.choice(MOTIONS)))
    return steps


def to_one_place(rng, name, paper):
    """Steps that fold, or cut and lay, a paper until one place is left; and the paper then."""
    shop = PaperShop()
    shop.papers[name] = paper
    steps = []
    while (shop.papers[name].rows(), shop.papers[name].columns()) != (1, 1):
        fold = rng.choice(all_folds(shop.papers[name].rows(), shop.papers[name].columns()))
        row = [("fold", name, fold)]
        if rng.random() < 0.3:
            cut = ("cut", name, fold[0], fold[1], "half")
            row = [cut, ("turn", "half", rng.choice(MOTIONS)), ("lay", name, "half")]
            many = shop.papers[name].columns() if fold[0] == "column" else shop.papers[name].rows()
            if many != 2 * fold[1]:
                continue
        for step in row:
            assert shop.do(step)
            steps.append(step)
    return steps


def random_book(rng, sheets=3, plates=("p", "q", "r")):
    """A random job book that can be done and makes something."""
    job = []
    names = ["book", "a", "b", "c"][:rng.randint(1, sheets)]
    for name in names:
        steps = printed_both_sides(rng, name, rng.choice([(1, 1), (1, 2), (2, 1), (2, 2), (1, 3), (3, 2)]), plates)
        shop, bad = shop_after(steps)
        if bad is not None:
            steps = steps[:bad]
            shop, _ = shop_after(steps)
        job += steps + to_one_place(rng, name, shop.papers[name])
    for name in names[1:]:
        job.append(("lay", "book", name))
        if rng.random() < 0.3:
            job.append(("turn", "book", rng.choice(MOTIONS)))
    return tuple(job)


def random_plates(rng, words=("p", "q", "r")):
    """Random plates for some words, some of them too small for what is printed with them."""
    sizes = [(1, 1), (1, 2), (2, 2), (3, 3)]
    return {word: random_plate(rng, rng.choice(sizes)) for word in words if rng.random() < 0.8}
