"""Point 8: begin."""

import unittest

from tests.helper import (BLANK, FAR, GAP, HARD, LINE, SOFT, aligned, ask, back, begin, drop, flat, group, groups,
                          indented, lay, least, lines, look, named, put, row, size, steps, text, told, written)

PAIR = group(row(text("a"), LINE, text("b")))
OTHER = row(text("cc"), HARD, text("d"))


class BeginTest(unittest.TestCase):
    def test_no_step_was_taken(self):
        for document in (text("a"), BLANK, SOFT, LINE, HARD, GAP, row(), OTHER, indented(4, BLANK), aligned(HARD),
                         PAIR):
            found = ask(put(document), begin(5, 0), look(), written(), back(0), back(1))
            self.assertEqual(found[1:], [[1], [0, 0, 0, 0, 1, document[0], 0, 0], [0], [0], [-6]], document)

    def test_named_one_is_itself(self):
        self.assertEqual(ask(put(PAIR), put(named(0)), begin(5, 1), look())[2:], [[1], [0, 0, 0, 0, 1, 9, 0, 0]])

    def test_within_the_width(self):
        self.assertEqual(ask(put(PAIR), begin(3, 0), steps(9), written())[3], [3, 97, 32, 98])
        self.assertEqual(ask(put(PAIR), begin(2, 0), steps(9), written())[3], [3, 97, 10, 98])
        self.assertEqual(ask(put(PAIR), begin(0, 0), steps(9), written())[3], [3, 97, 10, 98])
        self.assertEqual(ask(put(PAIR), begin(1000, 0), steps(9), written())[3], [3, 97, 32, 98])

    def test_the_document_that_is_named(self):
        found = ask(put(PAIR), put(OTHER), begin(9, 1), steps(2), written(), begin(9, 0), steps(3), written())
        self.assertEqual(found[2:], [[1], [2, 2], [2, 99, 99], [1], [3, 2], [1, 97]])

    def test_in_the_place_of_one_that_was(self):
        for taken in (0, 1, 3, 4, 9):
            found = ask(put(PAIR), put(OTHER), begin(3, 0), steps(taken), begin(9, 1), look(), written(), back(1),
                        steps(2), look())
            self.assertEqual(found[4:], [[1], [0, 0, 0, 0, 1, 6, 0, 0], [0], [-6], [2, 2], [2, 2, 0, 0, 2, 4, 0, 0]])

    def test_of_the_same_document_anew(self):
        found = ask(put(PAIR), begin(3, 0), steps(9), begin(2, 0), look(), steps(9), written())
        self.assertEqual(found[3:], [[1], [0, 0, 0, 0, 1, 9, 0, 0], [5, 0], [3, 97, 10, 98]])

    def test_refusals(self):
        for w in FAR + (1001, 1002):
            self.assertEqual(ask(put(PAIR), begin(w, 0), begin(w, 1), look())[1:], [[-3], [-3], [-9]], w)
        for w in (0, 1, 999, 1000):
            self.assertEqual(ask(put(PAIR), begin(w, 0))[1], [1], w)
        for k in FAR + (1, 2, 20):
            self.assertEqual(ask(put(PAIR), begin(5, k), look())[1:], [[-2], [-9]], k)
        self.assertEqual(ask(begin(5, 0), look()), [[-2], [-9]])
        self.assertEqual(ask(put(PAIR), drop(), begin(5, 0), look())[2:], [[-2], [-9]])

    def test_refused_one_leaves_the_laying(self):
        plain = ask(put(PAIR), begin(2, 0), steps(3), look(), written(), back(1), steps(9), written())
        for refused, number in ((begin(-1, 0), -3), (begin(1001, 0), -3), (begin(5, 1), -2), (begin(5, -1), -2)):
            found = ask(put(PAIR), begin(2, 0), steps(3), refused, look(), written(), refused, back(1), refused,
                        steps(9), written())
            self.assertEqual(found[3], [number])
            self.assertEqual(found[:3] + found[4:6] + found[7:8] + found[9:], plain)

    def test_other_calls_leave_the_laying(self):
        others = [put(OTHER), told(0), size(0), flat(0), lay(0, 0), groups(0, 0), lines(0, 0), least(0), drop()]
        for other in others:
            found = ask(put(PAIR), begin(3, 0), steps(3), look(), written(), other, look(), written(), steps(9),
                        written())
            self.assertEqual(found[3:5], [[3, 1, 0, 0, 2, 3, 0, 1], [1, 97]])
            self.assertEqual(found[6:], found[3:5] + [[2, 0], [3, 97, 32, 98]], other)

    def test_the_laying_leaves_other_calls(self):
        others = [told(0), size(0), flat(0), lay(2, 0), groups(2, 0), lines(2, 0), least(0), put(OTHER)]
        plain = ask(put(PAIR), *others)
        self.assertEqual(ask(put(PAIR), begin(3, 0), steps(4), *others)[3:], plain[1:])


if __name__ == "__main__":
    unittest.main()
