"""Part 21: texts."""

import random
import re
import unittest

from foldandbound.errors import BadLine, BadText
from foldandbound.flows import is_flow
from foldandbound.jobs import is_job
from foldandbound.layouts import is_layout
from foldandbound.sheets import is_size
from foldandbound.texts import (
    read_flow, read_job, read_layout, read_plate, write_flow, write_job, write_layout, write_plate)
from tests.support import ShopCase, random_book, random_job, random_plate, random_step, small_sizes
from tests.test_flows import chain, letters, random_flow

STEPS = {
    "sheet a 2x4": ("sheet", "a", (2, 4)),
    "sheet abcdefghijkl 16x4": ("sheet", "abcdefghijkl", (16, 4)),
    "print a p": ("print", "a", "p"),
    "turn a tumble": ("turn", "a", "tumble"),
    "turn a stay": ("turn", "a", "stay"),
    "fold a column 2 low over": ("fold", "a", ("column", 2, "low", "over")),
    "fold a row 63 high under": ("fold", "a", ("row", 63, "high", "under")),
    "cut a row 1 b": ("cut", "a", "row", 1, "b"),
    "cut a column 63 a": ("cut", "a", "column", 63, "a"),
    "lay a b": ("lay", "a", "b"),
}

# Texts of one line that are no texts of steps.
NO_STEPS = (
    "", " ", "sheet", "sheet a", "sheet a ", "sheet a 2", "sheet a 2x", "sheet a x4", "sheet a 2x4x1", "sheet a 2 4",
    "sheet a 2X4", "sheet a 02x4", "sheet a 2x04", "sheet a 0x4", "sheet a 2x0", "sheet a 17x1", "sheet a 8x9",
    "sheet a 2x 4", "sheet a 2 x4", "sheet a +2x4", "sheet a -2x4", "sheet a 2.0x4", "sheet a (2,4)", "sheet a 2x4 ",
    " sheet a 2x4", "sheet  a 2x4", "sheet a  2x4", "sheet a 2x4 b", "Sheet a 2x4", "sheet A 2x4", "sheet a1 2x4",
    "sheet abcdefghijklm 2x4", "sheet a 1234567890123x1", "sheet a 00000000002x4", "sheet a 2*4", "sheets a 2x4",
    "print a", "print a p q", "print a p ", "print  a p", "print a  p", "print a 1", "print a 2x4", "print",
    "turn a", "turn a flip", "turn a turn turn", "turn a Turn", "turn a ", "turn a tumble ", "turn  a tumble",
    "fold a column 2 low", "fold a column 2 low over 1", "fold a column 0 low over", "fold a column 64 low over",
    "fold a column 02 low over", "fold a column -1 low over", "fold a column two low over", "fold a low 2 column over",
    "fold a column  low over", "fold a column 2  low over", "fold a columns 2 low over", "fold a column 2 low over ",
    "fold column 2 low over", "fold a 2 column low over", "fold a column 2 lower over", "fold a column 2 low above",
    "fold a column,2,low,over", "fold a", "fold a column 12345678901 low over", "fold", "fold a ('column',)",
    "cut a row 1", "cut a row 1 b c", "cut a row 0 b", "cut a row 64 b", "cut a row 01 b", "cut a x 1 b", "cut a 1 row b",
    "cut a row b 1", "cut a row 1 B", "cut a row 1  b", "cut a row  1 b", "cut a row 1 b ", "cut", "cut a row 1 ",
    "lay a", "lay a b c", "lay a b ", " lay a b", "lay  a b", "lay a  b", "lay", "lay a abcdefghijklm", "lay a 1",
    "stay a b", "book", "a", "1", "lay\ta b", "lay a,b", "lay a b;", "#lay a b", "turn a turn#", "none",
)


def told_line(text, is_line):
    """The number of the first line for which a test does not hold, or None."""
    for at, line in enumerate(text.split("\n")):
        if not is_line(line):
            return at
    return None


def changed_text(rng, text):
    """A text with a random character, or several, put in, left out or replaced."""
    for _ in range(rng.choice((1, 1, 1, 2))):
        at = rng.randint(0, len(text))
        sign = rng.choice(" \nx,*/()0123456789abz" + text)
        text = text[:at] + rng.choice((sign, "", sign)) + text[at + rng.choice((0, 1)):]
    return text


class TestJobs(ShopCase):
    """Point 21.1."""

    def test_steps(self):
        for text, step in STEPS.items():
            self.same(self.pure(write_job, (step,)), text)
            self.same(self.pure(read_job, text), (step,))
        self.same(write_job(tuple(STEPS.values())), "\n".join(STEPS))
        self.same(read_job("\n".join(STEPS)), tuple(STEPS.values()))

    def test_the_empty_text(self):
        self.same(write_job(()), "")
        self.same(read_job(""), ())

    def test_line_feeds(self):
        self.fails(BadLine, read_job, "\n", line=0)
        self.fails(BadLine, read_job, "lay a b\n", line=1)
        self.fails(BadLine, read_job, "\nlay a b", line=0)
        self.fails(BadLine, read_job, "lay a b\n\nlay a b", line=1)
        self.fails(BadLine, read_job, "\n" * 99999, line=0)

    def test_wrong_steps(self):
        for text in NO_STEPS:
            if text:
                self.fails(BadLine, read_job, text, line=0)
            self.fails(BadLine, read_job, "lay a b\n" + text, line=1)
            self.fails(BadLine, read_job, "lay a b\n" + text + "\nlay a b\n" + text, line=1)
            self.fails(BadLine, read_job, text + "\nlay a b", line=0)

    def test_numbers_of_steps(self):
        for many in (1, 59, 60, 61, 62, 200):
            lines = ["turn a turn"] * many
            if many <= 60:
                self.same(read_job("\n".join(lines)), (("turn", "a", "turn"),) * many)
            else:
                self.fails(BadLine, read_job, "\n".join(lines), line=60)

    def test_wrong_lines_around_the_sixtieth(self):
        for many in (60, 61, 62, 70):
            for wrong in (0, 1, 58, 59, 60, 61, 65, 69):
                if wrong < many:
                    lines = ["turn a turn"] * many
                    lines[wrong] = "turn a turns"
                    self.fails(BadLine, read_job, "\n".join(lines), line=wrong)
                    lines[many - 1] = ""
                    self.fails(BadLine, read_job, "\n".join(lines), line=wrong)

    def test_numbers_of_ten_digits(self):
        for number in ("1234567890", "12345678901", "0000000002", "9" * 5000):
            for line in ("sheet a 1x{}", "fold a row {} low over", "cut a row {} b"):
                self.fails(BadLine, read_job, line.format(number), line=0)

    def test_random_jobs(self):
        rng = random.Random(211)
        for _ in range(200):
            job = rng.choice((random_book(rng), random_job(rng, 20), tuple(random_step(rng) for _ in range(9))))
            text = self.pure(write_job, job)
            self.same(read_job(text), job)
            self.same(len(text.split("\n")), max(1, len(job)))

    def test_changed_texts(self):
        rng = random.Random(212)
        found = {True: 0, False: 0}
        for _ in range(2000):
            text = changed_text(rng, write_job(tuple(random_step(rng) for _ in range(rng.randint(1, 4)))))

            def is_step_text(line):
                try:
                    return line != "" and write_job(read_job(line)) == line
                except BadLine:
                    return False

            wrong = told_line(text, is_step_text) if text else None
            found[wrong is None] += 1
            if wrong is None:
                job = read_job(text)
                self.true(is_job(job))
                self.same(write_job(job), text)
            else:
                self.fails(BadLine, read_job, text, line=wrong)
        self.assertGreater(min(found.values()), 200)

    def test_long_texts_end_soon(self):
        self.fails(BadLine, read_job, "\n".join(["lay a b"] * 12500), line=60)
        self.fails(BadLine, read_job, "sheet a 1x" + "1" * 99990, line=0)
        self.fails(BadLine, read_job, "lay a " + " " * 99990, line=0)
        self.fails(BadLine, read_job, "x" * 100000, line=0)


class TestPlates(ShopCase):
    """Point 21.2."""

    def test_some(self):
        for text, plate in (
                ("0", (((0, 0),),)), ("1", (((1, 0),),)), ("1*", (((1, 1),),)), ("9999", (((9999, 0),),)),
                ("9999*", (((9999, 1),),)), ("1 0 / 3* 4", (((1, 0), (0, 0)), ((3, 1), (4, 0)))),
                ("1 2 3", (((1, 0), (2, 0), (3, 0)),)), ("1 / 2* / 3", (((1, 0),), ((2, 1),), ((3, 0),)))):
            self.same(self.pure(write_plate, plate), text)
            self.same(self.pure(read_plate, text), plate)

    def test_wrong_texts(self):
        for text in (
                "", " ", "/", " / ", "1 /", "/ 1", "1 / ", " / 1", "1/2", "1 /2", "1/ 2", "1 / / 2", "1 //2", "1  / 2",
                "1 /  2", "1 2 / 3", "1 / 2 3", "1 2 / 3 4 / 5", "0*", "00", "01", "01*", "10000", "10000*", "12345678901",
                "1**", "*", "*1", "1 *", "1  2", " 1", "1 ", "1\n", "1\n/ 2", "-1", "+1", "1.0", "a", "1a", "1, 2", "1x2",
                "(1, 0)", "1 0 / 3* 4 ", "None", "True", "0 0*", "1_0", "0x1", "9" * 5000):
            self.fails(BadText, read_plate, text)

    def test_sizes(self):
        for rows in (1, 2, 3, 4, 8, 15, 16, 17, 20, 64, 65):
            for columns in (1, 2, 3, 4, 5, 8, 15, 16, 17, 20, 64, 65):
                plate = (((7, 1),) * columns,) * rows
                text = " / ".join([" ".join(["7*"] * columns)] * rows)
                if is_size((rows, columns)):
                    self.same(read_plate(text), plate)
                    self.same(write_plate(plate), text)
                else:
                    self.fails(BadText, read_plate, text)

    def test_random_plates(self):
        rng = random.Random(213)
        for size in small_sizes(64):
            plate = random_plate(rng, size, rng.choice((1, 99, 9999)))
            text = self.pure(write_plate, plate)
            self.same(self.pure(read_plate, text), plate)

    def test_changed_texts(self):
        rng = random.Random(214)
        face = r"([1-9][0-9]{0,3}\*?|0)"
        row = f"{face}( {face})*"
        form = re.compile(f"{row}( / {row})*")
        found = {True: 0, False: 0}
        for _ in range(3000):
            text = changed_text(rng, write_plate(random_plate(rng, rng.choice([(1, 1), (1, 2), (2, 1), (2, 2), (3, 2)]), 20)))
            widths = {len(part.split(" ")) for part in text.split(" / ")}
            wanted = form.fullmatch(text) is not None and len(widths) == 1
            found[wanted] += 1
            if wanted:
                self.same(write_plate(read_plate(text)), text)
            else:
                self.fails(BadText, read_plate, text)
        self.assertGreater(min(found.values()), 300)

    def test_long_texts_end_soon(self):
        for text in (" ".join(["1"] * 50000), " / ".join(["1"] * 25000), "1" * 100000, " " * 100000, "/" * 100000):
            self.fails(BadText, read_plate, text)


class TestLayouts(ShopCase):
    """Point 21.3."""

    LAYOUT = ((30, 20), ((0, 0, 10, 20), (10, 0, 20, 5), (10, 5, 20, 15)))
    TEXT = "board 30x20\npiece 0 0 10 20\npiece 10 0 20 5\npiece 10 5 20 15"

    def test_some(self):
        self.same(self.pure(write_layout, self.LAYOUT), self.TEXT)
        self.same(self.pure(read_layout, self.TEXT), self.LAYOUT)
        self.same(write_layout(((1, 1000), ())), "board 1x1000")
        self.same(read_layout("board 1x1000"), ((1, 1000), ()))
        self.same(read_layout("board 1000x1\npiece 999 0 1 1"), ((1000, 1), ((999, 0, 1, 1),)))

    def test_wrong_boards(self):
        for line in ("", " ", "board", "board ", "board 30", "board 30x", "board x20", "board 30x20x1", "board 30 20",
                     "board  30x20", " board 30x20", "board 30x20 ", "board 30X20", "board 030x20", "board 0x20", "board 30x0",
                     "board 1001x1", "board 1x1001", "Board 30x20", "piece 0 0 1 1", "30x20", "board -3x2", "boards 30x20",
                     "board 30x20 1", "board 1234567890123x1", "board 3x00000000002", "board (30, 20)", "board axb"):
            self.fails(BadLine, read_layout, line, line=0)
            self.fails(BadLine, read_layout, line + "\npiece 0 0 1 1", line=0)

    def test_wrong_pieces(self):
        for line in ("", " ", "piece", "piece 0 0 1", "piece 0 0 1 1 1", "piece 0 0 0 1", "piece 0 0 1 0", "piece  0 0 1 1",
                     "piece 0  0 1 1", " piece 0 0 1 1", "piece 0 0 1 1 ", "piece 00 0 1 1", "piece 0 0 01 1", "piece -1 0 1 1",
                     "Piece 0 0 1 1", "pieces 0 0 1 1", "board 30x20", "piece 0 0 1x1", "piece 0,0,1,1", "piece a b c d",
                     "0 0 1 1", "piece 0 0 1 12345678901", "piece 30 0 1 1", "piece 29 0 2 1", "piece 0 19 1 2",
                     "piece 0 0 31 1", "piece 0 0 1.0 1"):
            self.fails(BadLine, read_layout, "board 30x20\n" + line, line=1)
            self.fails(BadLine, read_layout, "board 30x20\npiece 5 5 1 1\n" + line + "\npiece 5 5 1 1", line=2)

    def test_pieces_that_overlap(self):
        first = "board 9x9\npiece 0 0 3 3\npiece 3 0 3 3\n"
        for line in ("piece 0 0 3 3", "piece 2 2 1 1", "piece 2 2 2 2", "piece 5 2 4 4", "piece 0 0 9 9", "piece 1 1 1 1"):
            self.fails(BadLine, read_layout, first + line, line=3)
            self.fails(BadLine, read_layout, first + "piece 6 6 1 1\n" + line + "\nlay a b", line=4)
            # The first such line is told, not the first wrong one of another kind.
            self.fails(BadLine, read_layout, first + line + "\npiece", line=3)
        self.same(len(read_layout(first + "piece 0 3 9 6")[1]), 3)

    def test_line_feeds(self):
        self.fails(BadLine, read_layout, "", line=0)
        self.fails(BadLine, read_layout, "\n", line=0)
        self.fails(BadLine, read_layout, "\n" + self.TEXT, line=0)
        self.fails(BadLine, read_layout, self.TEXT + "\n", line=4)
        self.fails(BadLine, read_layout, "board 30x20\n", line=1)
        self.fails(BadLine, read_layout, "board 30x20\n\npiece 0 0 1 1", line=1)

    def test_numbers_of_pieces(self):
        for many in (1, 29, 30, 31, 32, 60):
            pieces = tuple((k, 0, 1, 1) for k in range(many))
            text = "\n".join(["board 100x1"] + [f"piece {k} 0 1 1" for k in range(many)])
            if many <= 30:
                self.same(read_layout(text), ((100, 1), pieces))
                self.same(write_layout(((100, 1), pieces)), text)
            else:
                self.fails(BadLine, read_layout, text, line=31)

    def test_changed_texts(self):
        rng = random.Random(215)
        number = "(0|[1-9][0-9]{0,9})"
        form = re.compile(f"piece {number} {number} {number} {number}")
        found = {True: 0, False: 0}

        def told_layout(lines):
            """The layout that some lines tell, or None."""
            board = re.compile(f"board {number}x{number}").fullmatch(lines[0])
            pieces = [form.fullmatch(line) for line in lines[1:]]
            if board is None or None in pieces:
                return None
            layout = (tuple(map(int, board.groups())), tuple(tuple(map(int, piece.groups())) for piece in pieces))
            return layout if is_layout(layout) else None

        for _ in range(2000):
            text = self.TEXT
            if rng.random() < 0.9:
                text = changed_text(rng, text)
            lines = text.split("\n")
            wrong = [at for at in range(len(lines)) if told_layout(lines[:at + 1]) is None]
            found[wrong == []] += 1
            if wrong:
                self.fails(BadLine, read_layout, text, line=wrong[0])
            else:
                self.same(read_layout(text), told_layout(lines))
                self.same(write_layout(read_layout(text)), text)
        self.assertGreater(min(found.values()), 200)

    def test_long_texts_end_soon(self):
        self.fails(BadLine, read_layout, "board 9x9" + "\npiece 0 0 1 1" * 7000, line=2)
        self.fails(BadLine, read_layout, "board 9x" + "9" * 99990, line=0)
        self.fails(BadLine, read_layout, "board 9x9\npiece" + " 1" * 49990, line=1)
        self.fails(BadLine, read_layout, "\n" * 100000, line=0)


class TestFlows(ShopCase):
    """Point 21.4."""

    A = ("paper", "a")

    def test_some(self):
        for text, flow in (
                ("a", self.A), ("abcdefghijkl", ("paper", "abcdefghijkl")), ("run(5,a)", ("run", 5, self.A)),
                ("run", ("paper", "run")), ("gather(0,run,split)", ("gather", 0, (("paper", "run"), ("paper", "split")))),
                ("run(0,run)", ("run", 0, ("paper", "run"))), ("run(99,paper)", ("run", 99, ("paper", "paper"))),
                ("split(2,a)", ("split", 2, self.A)), ("split(16,a)", ("split", 16, self.A)),
                ("gather(0,a)", ("gather", 0, (self.A,))), ("gather(99,a,b)", ("gather", 99, (self.A, ("paper", "b")))),
                ("gather(2,run(5,a),split(2,run(1,b)))",
                 ("gather", 2, (("run", 5, self.A), ("split", 2, ("run", 1, ("paper", "b")))))),
                ("run(1,gather(2,split(3,a),b))",
                 ("run", 1, ("gather", 2, (("split", 3, self.A), ("paper", "b")))))):
            self.same(self.pure(write_flow, flow), text)
            self.same(self.pure(read_flow, text), flow)

    def test_wrong_texts(self):
        for text in (
                "", " ", "A", "a ", " a", "a\n", "a b", "a,b", "1", "a1", "abcdefghijklm", "(", ")", "()", "(a)", "a(", "a)",
                "run(", "run()", "run(5", "run(5)", "run(5,", "run(5,)", "run(5,a", "run(5,a))", "run(5,a)b", "run(5,a),",
                "run(5,a)run(5,b)", "(run(5,a))", "run((5,a))", "run(5,(a))", "run(,a)", "run(a)", "run(a,5)", "run(5;a)",
                "run(5,a,b)", "run(5,,a)", "run 5,a", "run(5, a)", "run (5,a)", "run( 5,a)", "run(5 ,a)", "run(5,a )",
                "run(05,a)", "run(00,a)", "run(-1,a)", "run(+5,a)", "run(100,a)", "run(5.0,a)", "run(12345678901,a)",
                "split(2)", "split(1,a)", "split(0,a)", "split(17,a)", "split(2,a,b)", "split(02,a)", "split(2,)",
                "gather(2)", "gather(2,)", "gather(2,a,)", "gather(2,,a)", "gather(100,a)", "gather(a,b)", "gather(2,(a,b))",
                "gather(2,a,a)", "gather(2,run(1,a),split(2,a))", "gather(1,a,b,c,d,e,f,g)", "gather(2,[a,b])",
                "paper(a)", "paper(5,a)", "paper(5)", "fold(5,a)", "Run(5,a)", "runs(5,a)", "run[5,a]", "run(5,A)", "run(5,1)",
                "run(5,run(5,a)", "run(5,run(5,a)))", "gather(1,a,b", "gather(1,a,b))", "gather(1,run(2,a,b)", "run(5,a,)",
                "run(5,)a", "run(5)a", "run,a", "abcdefghijklm(5,a)", "run(5,a(5))", ",", "a(b)", "a(5,b)", "(5,a)"):
            self.fails(BadText, read_flow, text)

    def test_numbers(self):
        for number in (-1, 0, 1, 2, 15, 16, 17, 98, 99, 100, 1234567890):
            for word, low, high in (("run", 0, 99), ("split", 2, 16), ("gather", 0, 99)):
                text = f"{word}({number},a)"
                if low <= number <= high:
                    self.same(write_flow(read_flow(text)), text)
                else:
                    self.fails(BadText, read_flow, text)

    def test_numbers_of_nodes(self):
        for many in (1, 2, 39, 40, 41, 42, 100, 300):
            text = "run(1," * (many - 1) + "a" + ")" * (many - 1)
            if many <= 40:
                self.same(read_flow(text), chain(many))
                self.same(write_flow(chain(many)), text)
            else:
                self.fails(BadText, read_flow, text)
        rows = ["gather(1," + ",".join(letters(10 * row + k) for k in range(6)) + ")" for row in range(6)]
        wide = "gather(1," + ",".join(rows[:5]) + ")"
        self.true(is_flow(read_flow(wide)))
        self.true(is_flow(read_flow("run(1," * 4 + wide + ")" * 4)))
        self.fails(BadText, read_flow, "run(1," * 5 + wide + ")" * 5)
        self.fails(BadText, read_flow, "gather(1," + ",".join(rows) + ")")

    def test_random_flows(self):
        rng = random.Random(216)
        for _ in range(300):
            flow = random_flow(rng, rng.randint(0, 8), most=99)
            text = self.pure(write_flow, flow)
            self.same(read_flow(text), flow)
            self.assertNotIn(" ", text)

    def test_changed_texts(self):
        rng = random.Random(217)
        found = {True: 0, False: 0}
        for _ in range(4000):
            text = changed_text(rng, write_flow(random_flow(rng, rng.randint(0, 4), most=99)))
            try:
                flow = read_flow(text)
            except BadText:
                found[False] += 1
                continue
            found[True] += 1
            self.true(is_flow(flow), text)
            self.same(write_flow(flow), text)
        self.assertGreater(min(found.values()), 300)

    def test_long_texts_end_soon(self):
        many = "run(1," * 16000
        for text in (many, many + "a" + ")" * 3000, "a" * 100000, "(" * 100000, ")" * 100000, "," * 100000,
                     "gather(1" + ",a" * 49000 + ")", "gather(1" + ",a(" * 30000, "a(" * 50000, "run(" + "1" * 99000,
                     "gather(1" + ",run(1,a)" * 11000 + ")"):
            self.fails(BadText, read_flow, text)


if __name__ == "__main__":
    unittest.main()
