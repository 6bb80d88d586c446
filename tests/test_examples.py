"""The examples of the interface in the document, as they stand there."""

import doctest
import unittest

SHEETS = '''
>>> from foldandbound.sheets import after_turn, side_up, spun
>>> after_turn((1, 0), "tumble")
(1, 1)
>>> side_up((1, 1))
'front'
>>> spun((((1, 0), (2, 1)),))
(((2, 0), (1, 1)),)
'''

FOLDING = '''
>>> from foldandbound.folding import all_folded, creases
>>> all_folded((1, 2), (("column", 1, "low", "over"),))
((((0, 0, 1, 0, 0), (0, 0, 0, 1, 0)),),)
>>> creases((1, 3), (("column", 2, "high", "under"),))
[('column', 0, 1, 'mountain')]
'''

READING = '''
>>> from foldandbound.reading import laying
>>> laying((1, 2), (("column", 1, "low", "over"),), 4)
((((2, 0), (3, 0)),), (((4, 0), (1, 0)),))
'''

ORDERS = '''
>>> from foldandbound.orders import orders
>>> orders((1, 2))
[((0, 0), (0, 1)), ((0, 1), (0, 0))]
'''


class TestExamples(unittest.TestCase):
    def holds(self, text):
        told = []
        test = doctest.DocTestParser().get_doctest(text, {}, "example", None, 0)
        self.assertTrue(test.examples)
        result = doctest.DocTestRunner(verbose=False).run(test, out=told.append)
        self.assertEqual(result.failed, 0, "".join(told))

    def test_sheets(self):
        self.holds(SHEETS)

    def test_folding(self):
        self.holds(FOLDING)

    def test_reading(self):
        self.holds(READING)

    def test_orders(self):
        self.holds(ORDERS)


if __name__ == "__main__":
    unittest.main()
