"""The examples of the interface in the document, as they stand there."""

import doctest
import unittest

from tests.support import ShopCase

SHEETS = '''
>>> from foldandbound.sheets import after_turn, side_up, spun
>>> after_turn((1, 0), "tumble")
(1, 1)
>>> side_up((1, 1))
'front'
>>> spun((((1, 0), (2, 1)),))
(((2, 0), (1, 1)),)
'''

FOLDING = '''
>>> from foldandbound.folding import all_folded, creases
>>> all_folded((1, 2), (("column", 1, "low", "over"),))
((((0, 0, 1, 0, 0), (0, 0, 0, 1, 0)),),)
>>> creases((1, 3), (("column", 2, "high", "under"),))
[('column', 0, 1, 'mountain')]
'''

READING = '''
>>> from foldandbound.reading import laying
>>> laying((1, 2), (("column", 1, "low", "over"),), 4)
((((2, 0), (3, 0)),), (((4, 0), (1, 0)),))
'''

ORDERS = '''
>>> from foldandbound.orders import orders
>>> orders((1, 2))
[((0, 0), (0, 1)), ((0, 1), (0, 0))]
'''

STRIPS = '''
>>> from foldandbound.strips import crossing, kinds_of, strip_orders
>>> len(strip_orders(4))
16
>>> crossing((0, 2, 1, 3))
(0, 2)
>>> kinds_of((0, 2, 1))
('mountain', 'mountain')
'''

SECTIONS = '''
>>> from foldandbound.sections import best_sections, nested_pages
>>> best_sections(21, (4, 8, 16))
[16, 8]
>>> nested_pages(2)
[(8, 1, 2, 7), (6, 3, 4, 5)]
'''

JOBS = '''
>>> J = (("sheet", "book", (1, 2)), ("print", "book", "p"), ("turn", "book", "turn"), ("print", "book", "q"), \
("turn", "book", "turn"), ("fold", "book", ("column", 1, "low", "over")))
>>> from foldandbound.jobs import makes, plates_of
>>> makes(J)
[('q', 0, 1, 0), ('p', 0, 0, 0), ('p', 0, 1, 0), ('q', 0, 0, 0)]
>>> plates_of(J, 4) == {"p": (((2, 0), (3, 0)),), "q": (((4, 0), (1, 0)),)}
True
'''

LAYOUTS = '''
>>> from foldandbound.layouts import can_be_cut
>>> can_be_cut(((3, 3), ((0, 0, 2, 1), (2, 0, 1, 2), (1, 2, 2, 1), (0, 1, 1, 2))))
False
'''

TABLES = '''
>>> from foldandbound.tables import most_pieces
>>> most_pieces(2, 3, True, (5, 5))
3
'''

PILECUTS = '''
>>> from foldandbound.pilecuts import fewest_steps, parted
>>> fewest_steps(5)
3
>>> parted(5, (2, 1))
[2, 1, 1, 1]
'''

LABELS = '''
>>> from foldandbound.labels import fewest_sheets
>>> fewest_sheets((100, 50, 50), 4, 1)
50
'''

FLOWS = '''
>>> from foldandbound.flows import least_supply
>>> least_supply(("gather", 2, (("run", 5, ("paper", "a")), \
("split", 2, ("run", 1, ("paper", "b"))))), 10) == {"a": 17, "b": 7}
True
'''

PRESS = '''
>>> from foldandbound.press import ends, ends_with, kept_paper
>>> ends((("a", 0, 5, 20), ("b", 9, 3, 15)), ("a", "b"))
[5, 12]
>>> ends_with((("a", 0, 5, 20), ("b", 9, 3, 15)), ("a", "b"), ((0, 6),))
[11, 14]
>>> kept_paper((("a", 0, 5, 20), ("b", 9, 3, 15)), ("a", "b"), 1, 4)
('late', ((1, 4),))
'''

STAGES = '''
>>> from foldandbound.stages import least_makespan
>>> least_makespan((("a", 3, 2), ("b", 1, 4), ("c", 5, 1)))
10
'''

COUNTERS = '''
>>> from foldandbound.counters import ranges, told_bounds
>>> told_bounds([7], 2)
((-1, 0, 9), (0, -1, -5))
>>> ranges(2, told_bounds([7, 9], 2) + ((1, 0, 0), (0, 1, 1)))
[(6, 9), (7, 10)]
'''

COSTS_AND_LINES = '''
>>> from foldandbound.costs import shares
>>> shares(100, [1, 1, 1])
[34, 33, 33]
>>> from foldandbound.lines import badness, best_lines
>>> best_lines([3, 2, 2, 5], 6)
[1, 2, 1]
>>> badness([3, 2, 2, 5], 6, [2, 1, 1])
16
'''

GRIDS = '''
>>> from foldandbound.grids import spread, traps
>>> spread(((0, 0, 0), (0, 0, 1)), 1)
((0, 1, 1), (0, 1, 1))
>>> traps(((1, 1, 0),), ((0, 0, 1),), ((1, 1, 0),), ((0, 0, 1),), 1)
('gap', (-1, -1), (0, 2))
'''

# Here `J` is the job book of the example of jobs.py.
TEXTS = JOBS.split("\n")[1] + '''
>>> from foldandbound.texts import write_flow, write_job, write_plate
>>> write_job(J).split("\\n")[:3]
['sheet book 1x2', 'print book p', 'turn book turn']
>>> write_plate((((1, 0), (0, 0)), ((3, 1), (4, 0))))
'1 0 / 3* 4'
'''

HANDLINGS = '''
>>> from foldandbound.handlings import handlings_to
>>> handlings_to((1, 2), ((0, 0, 0, 0, 0), (0, 0, 1, 0, 0)))
(('halve', 'column'),)
'''

INKS = '''
>>> from foldandbound.inks import fewest_plates
>>> fewest_plates((1, 2), 4, {1: ("black",), 4: ("black", "red"), 2: ("black",)})
3
'''

REELS = '''
>>> from foldandbound.reels import fewest_reels
>>> fewest_reels(10, (3, 4, 6), (2, 2, 1))
2
'''

DAYS = '''
>>> from foldandbound.days import can_be_held, most_failures_held
>>> D = (4, (("a", 2, 0, 1, 4),), 1, 0)
>>> can_be_held(D), most_failures_held(D)
(True, 1)
'''


class TestExamples(ShopCase):
    def holds(self, text):
        told = []
        test = doctest.DocTestParser().get_doctest(text, {}, "example", None, 0)
        self.assertTrue(test.examples)
        result = doctest.DocTestRunner(verbose=False).run(test, out=told.append)
        self.assertEqual(result.failed, 0, "".join(told))

    def test_sheets(self):
        self.holds(SHEETS)

    def test_folding(self):
        self.holds(FOLDING)

    def test_reading(self):
        self.holds(READING)

    def test_orders(self):
        self.holds(ORDERS)

    def test_strips(self):
        self.holds(STRIPS)

    def test_sections(self):
        self.holds(SECTIONS)

    def test_jobs(self):
        self.holds(JOBS)

    def test_layouts(self):
        self.holds(LAYOUTS)

    def test_tables(self):
        self.holds(TABLES)

    def test_pilecuts(self):
        self.holds(PILECUTS)

    def test_labels(self):
        self.holds(LABELS)

    def test_flows(self):
        self.holds(FLOWS)

    def test_press(self):
        self.holds(PRESS)

    def test_stages(self):
        self.holds(STAGES)

    def test_counters(self):
        self.holds(COUNTERS)

    def test_costs_and_lines(self):
        self.holds(COSTS_AND_LINES)

    def test_grids(self):
        self.holds(GRIDS)

    def test_texts(self):
        self.holds(TEXTS)

    def test_handlings(self):
        self.holds(HANDLINGS)

    def test_inks(self):
        self.holds(INKS)

    def test_reels(self):
        self.holds(REELS)

    def test_days(self):
        self.holds(DAYS)


if __name__ == "__main__":
    unittest.main()
