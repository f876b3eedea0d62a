"""Point 9: steps."""

import unittest

from tests.helper import (BLANK, FAR, HARD, HUGE, LINE, aligned, ask, begin, drop, group, indented, look,
                          made_documents, put, row, size, steps, text, written)

A = text("a")
B = text("b")
# It has 10 parts.
DOCUMENT = row(A, group(row(LINE, indented(2, aligned(B)))), HARD, BLANK)


class StepsTest(unittest.TestCase):
    def check(self, numbers, answers_to_them):
        found = ask(put(DOCUMENT), begin(9, 0), *[steps(n) for n in numbers])
        self.assertEqual(found[2:], answers_to_them, numbers)

    def test_0(self):
        self.check([0, 0], [[0, 1], [0, 1]])
        self.check([1, 0, 1, 0], [[1, 4], [0, 4], [1, 3], [0, 3]])
        plain = ask(put(DOCUMENT), begin(9, 0), steps(5), look(), written())
        self.assertEqual(ask(put(DOCUMENT), begin(9, 0), steps(5), steps(0), look(), written())[4:], plain[3:])

    def test_1(self):
        self.check([1] * 10, [[1, 4], [1, 3], [1, 3], [1, 4], [1, 3], [1, 3], [1, 3], [1, 2], [1, 1], [1, 0]])

    def test_several(self):
        self.check([2, 3, 4, 1], [[2, 3], [3, 3], [4, 1], [1, 0]])

    def test_as_many_as_are_left(self):
        self.check([10], [[10, 0]])
        self.check([4, 6], [[4, 4], [6, 0]])

    def test_more_than_are_left(self):
        for n in (11, 12, 1000, HUGE - 1, HUGE):
            self.check([n], [[10, 0]])
            self.check([7, n], [[7, 3], [3, 0]])

    def test_commands_are_used_up(self):
        self.check([10, 0, 1, 5, HUGE], [[10, 0], [0, 0], [0, 0], [0, 0], [0, 0]])
        found = ask(put(DOCUMENT), begin(9, 0), steps(10), look(), written(), steps(3), look(), written())
        self.assertEqual(found[5], [0, 0])
        self.assertEqual(found[6:], found[3:5])

    def test_no_documents_in_a_row(self):
        self.assertEqual(ask(put(row()), begin(9, 0), steps(1), steps(1))[2:], [[1, 0], [0, 0]])

    def test_below_0(self):
        for n in (-1, -2, -HUGE + 1, -HUGE):
            self.check([n, 3, n, HUGE, n], [[-6], [3, 3], [-6], [7, 0], [-6]])
        plain = ask(put(DOCUMENT), begin(9, 0), steps(5), look(), written())
        self.assertEqual(ask(put(DOCUMENT), begin(9, 0), steps(5), steps(-1), look(), written())[4:], plain[3:])

    def test_no_laying(self):
        for n in FAR + (0, 1):
            self.assertEqual(ask(steps(n)), [[-9]], n)
            self.assertEqual(ask(put(DOCUMENT), steps(n), drop(), steps(n))[1::2], [[-9], [-9]], n)

    def test_at_once_or_one_by_one(self):
        for document in made_documents(60):
            count = ask(put(document), size(0))[1][0]
            for width in (0, 6, 15):
                some = min(count, 35)
                at_once = ask(put(document), begin(width, 0), steps(some), look(), written())
                one_by_one = ask(put(document), begin(width, 0), *[steps(1)] * some, look(), written())
                self.assertEqual(one_by_one[-2:], at_once[-2:], document)
                self.assertEqual([answer[0] for answer in one_by_one[2:-2]], [1] * some)
                self.assertEqual(one_by_one[-3][1], at_once[2][1])


if __name__ == "__main__":
    unittest.main()
