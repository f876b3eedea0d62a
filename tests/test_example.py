"""The document's own example."""

import unittest

from tests.helper import (ask, back, begin, flat, groups, lay, least, lines, look, put, size, steps, told,
                          written)

D = [9, 6, 4, 0, 2, 102, 40, 7, 2, 6, 4, 2, 0, 2, 97, 44, 3, 0, 1, 98, 2, 0, 1, 41]
ONE_LINE = list(b"f(a, b)")
FOUR_LINES = list(b"f(\n  a,\n  b\n)")


class ExampleTest(unittest.TestCase):
    def test_example(self):
        found = ask(put(D), size(0), lay(7, 0), lay(6, 0), lines(6, 0), lines(7, 0), groups(6, 0), least(0), flat(0),
                    put([6, 2, 10, 0, 0, 1, 59]), lay(7, 1), told(1), least(1),
                    begin(6, 0), steps(4), look(), back(2), written())
        self.assertEqual(found, [
            [0],
            [11, 5, 6, 1, 0],
            [1, 7, 7] + ONE_LINE,
            [4, 4, 13] + FOUR_LINES,
            [4, 2, 0, 0, 4, 2, 0, 3, 2, 0, 1, 0, 0],
            [1, 7, 0, 3],
            [1, 0],
            [7],
            [7] + ONE_LINE,
            [1],
            [4, 4, 14] + FOUR_LINES + [59],
            [13, 6, 2] + D + [0, 1, 59],
            [8],
            [1],
            [4, 3],
            [4, 2, 0, 0, 3, 6, 2, 0],
            [2],
            [0],
        ])

    def test_group_in_the_example(self):
        self.assertEqual(ask(put(D), groups(7, 0))[1], [1, 1])
        with_semicolon = [6, 2] + D + [0, 1, 59]
        self.assertEqual(ask(put(with_semicolon), groups(7, 0), groups(8, 0))[1:], [[1, 0], [1, 1]])


if __name__ == "__main__":
    unittest.main()
