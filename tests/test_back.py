"""Point 11: back."""

import unittest

from tests.helper import (BLANK, FAR, GAP, HARD, HUGE, LINE, SOFT, aligned, ask, back, begin, drop, group, indented,
                          look, made_documents, put, row, size, steps, text, written)

A = text("a")
B = text("b")
# It has 11 parts: a group, a row, a text, an indented row of four, a soft and a text.
D = group(row(text("f("), indented(2, row(SOFT, text("a,"), LINE, B)), SOFT, text(")")))


class BackTest(unittest.TestCase):
    def test_0(self):
        for taken in (0, 1, 6, 11):
            found = ask(put(D), begin(6, 0), steps(taken), look(), written(), back(0), look(), written())
            self.assertEqual(found[5:], [[taken]] + found[3:5])

    def test_some(self):
        found = ask(put(D), begin(6, 0), steps(4), back(2), look(), written())
        self.assertEqual(found[3:], [[2], [2, 0, 0, 0, 4, 0, 0, 0], [0]])
        found = ask(put(D), begin(6, 0), steps(9), back(1), look(), written(), back(2), look(), written())
        self.assertEqual(found[3:], [[8], [8, 4, 2, 2, 3, 0, 2, 0], [7, 102, 40, 10, 32, 32, 97, 44],
                                     [6], [6, 2, 2, 2, 5, 0, 2, 0], [2, 102, 40]])

    def test_every_number(self):
        for width in (6, 7):
            for taken in range(12):
                plain = [ask(put(D), begin(width, 0), steps(left), look(), written())[3:] for left in range(taken + 1)]
                for n in range(taken + 1):
                    found = ask(put(D), begin(width, 0), steps(taken), back(n), look(), written())
                    self.assertEqual(found[3:], [[taken - n]] + plain[taken - n])

    def test_all(self):
        found = ask(put(D), begin(6, 0), steps(HUGE), back(11), look(), written(), back(0), back(1))
        self.assertEqual(found[3:], [[0], [0, 0, 0, 0, 1, 9, 0, 0], [0], [0], [-6]])

    def test_from_the_end(self):
        # Steps that weren't taken, since no command was left, aren't undone.
        found = ask(put(D), begin(6, 0), steps(HUGE), steps(5), back(1), look(), steps(5))
        self.assertEqual(found[4:], [[10], [10, 3, 2, 0, 1, 0, 0, 0], [1, 0]])

    def test_more_than_were_taken(self):
        for n in (1, 2, HUGE - 1, HUGE):
            self.assertEqual(ask(put(D), begin(6, 0), back(n), look())[2:], [[-6], [0, 0, 0, 0, 1, 9, 0, 0]], n)
        for n in (5, 6, 11, HUGE):
            self.assertEqual(ask(put(D), begin(6, 0), steps(4), back(n))[3], [-6], n)
        self.assertEqual(ask(put(D), begin(6, 0), steps(HUGE), back(12), back(11), back(1))[3:], [[-6], [0], [-6]])
        self.assertEqual(ask(put(D), begin(6, 0), steps(4), back(3), back(2), back(1), back(1))[3:],
                         [[1], [-6], [0], [-6]])

    def test_below_0(self):
        for n in (-1, -2, -HUGE + 1, -HUGE):
            for taken in (0, 4, 11):
                self.assertEqual(ask(put(D), begin(6, 0), steps(taken), back(n))[3], [-6], n)

    def test_refused_one_leaves_the_laying(self):
        plain = ask(put(D), begin(6, 0), steps(7), look(), written(), steps(HUGE), written())
        for n in (-HUGE, -1, 8, 12, HUGE):
            found = ask(put(D), begin(6, 0), steps(7), back(n), look(), written(), back(n), steps(HUGE), written())
            self.assertEqual((found[3], found[6]), ([-6], [-6]))
            self.assertEqual(found[4:6] + found[7:], plain[3:])

    def test_no_laying(self):
        for n in FAR + (0, 1):
            self.assertEqual(ask(back(n)), [[-9]], n)
            self.assertEqual(ask(put(D), back(n), drop(), back(n))[1::2], [[-9], [-9]], n)

    def test_of_a_laying_begun_anew(self):
        found = ask(put(D), begin(6, 0), steps(5), begin(7, 0), back(1), steps(3), back(4), back(3), look())
        self.assertEqual(found[4:], [[-6], [3, 3], [-6], [0], [0, 0, 0, 0, 1, 9, 0, 0]])

    def test_the_width_stays(self):
        for width in (6, 7):
            plain = ask(put(D), begin(width, 0), steps(HUGE), written())[3]
            self.assertEqual(ask(put(D), begin(width, 0), steps(9), back(9), steps(HUGE), written())[5], plain)

    def test_what_was_held_and_written(self):
        for mark, held in ((BLANK, [1, 0]), (SOFT, [2, 3]), (LINE, [2, 3]), (HARD, [2, 3]), (GAP, [3, 3])):
            document = indented(3, row(A, mark, B, aligned(mark)))
            found = ask(put(document), begin(9, 0), steps(HUGE), back(3), look(), written())
            self.assertEqual(found[3:], [[4], [4, 1] + held + [2, 0, 3, 0], [1, 97]], mark)

    def test_steps_taken_anew(self):
        for document in made_documents(120):
            count = ask(put(document), size(0))[1][0]
            for width in (0, 4, 9, 20):
                taken = count * 2 // 3
                undone = count // 2
                forth = [begin(width, 0), steps(taken)]
                behind = [look(), written(), steps(3), look(), written(), steps(HUGE), look(), written()]
                plain = ask(put(document), *forth, *behind)
                anew = ask(put(document), *forth, back(undone), steps(undone), *behind)
                self.assertEqual(anew[3:5], [[taken - undone], [undone, anew[4][1]]])
                self.assertEqual(anew[5:], plain[3:], (document, width))
                again = ask(put(document), *forth, steps(HUGE), back(count - taken), *behind)
                self.assertEqual(again[5:], plain[3:], (document, width))


if __name__ == "__main__":
    unittest.main()
