"""Point 10, as far as look goes."""

import unittest

from tests.helper import (BLANK, GAP, HARD, HUGE, LINE, MARKS, SOFT, aligned, ask, back, begin, drop, group, indented,
                          look, named, put, row, steps, text)

A = text("a")
B = text("b")
D = group(row(text("f("), indented(2, row(SOFT, text("a,"), LINE, B)), SOFT, text(")")))


def looks(document, width, count):
    """The look after each of so many steps, and that before them."""
    found = ask(put(document), begin(width, 0), look(), *[steps(1), look()] * count)
    return found[2::2]


def look_after(document, taken, width=80):
    return ask(put(document), begin(width, 0), steps(taken), look())[3]


class LookTest(unittest.TestCase):
    def test_every_step_of_a_broken_one(self):
        self.assertEqual(looks(D, 6, 12), [
            [0, 0, 0, 0, 1, 9, 0, 0],
            [1, 0, 0, 0, 1, 6, 0, 0],
            [2, 0, 0, 0, 4, 0, 0, 0],
            [3, 2, 0, 0, 3, 7, 0, 0],
            [4, 2, 0, 0, 3, 6, 2, 0],
            [5, 2, 0, 0, 6, 2, 2, 0],
            [6, 2, 2, 2, 5, 0, 2, 0],
            [7, 4, 0, 0, 4, 3, 2, 0],
            [8, 4, 2, 2, 3, 0, 2, 0],
            [9, 3, 0, 0, 2, 2, 0, 0],
            [10, 3, 2, 0, 1, 0, 0, 0],
            [11, 1, 0, 0, 0],
            [11, 1, 0, 0, 0],
        ])

    def test_every_step_of_a_flat_one(self):
        self.assertEqual(looks(D, 7, 11), [
            [0, 0, 0, 0, 1, 9, 0, 0],
            [1, 0, 0, 0, 1, 6, 0, 1],
            [2, 0, 0, 0, 4, 0, 0, 1],
            [3, 2, 0, 0, 3, 7, 0, 1],
            [4, 2, 0, 0, 3, 6, 2, 1],
            [5, 2, 0, 0, 6, 2, 2, 1],
            [6, 2, 0, 0, 5, 0, 2, 1],
            [7, 4, 0, 0, 4, 3, 2, 1],
            [8, 4, 1, 0, 3, 0, 2, 1],
            [9, 6, 0, 0, 2, 2, 0, 1],
            [10, 6, 0, 0, 1, 0, 0, 1],
            [11, 7, 0, 0, 0],
        ])

    def test_what_is_held(self):
        for mark, held in ((BLANK, [1, 0]), (SOFT, [2, 3]), (LINE, [2, 3]), (HARD, [2, 3]), (GAP, [3, 3]),
                           (row(), [0, 0])):
            document = indented(3, row(A, mark, BLANK))
            self.assertEqual(look_after(document, 4), [4, 1] + held + [1, 1, 3, 0], mark)

    def test_what_is_held_by_flat_marks(self):
        for mark, held in ((BLANK, [1, 0]), (SOFT, [0, 0]), (LINE, [1, 0])):
            document = group(indented(3, row(A, mark, B)))
            self.assertEqual(look_after(document, 5), [5, 1] + held + [1, 0, 3, 1], mark)

    def test_held_ones_one_behind_another(self):
        """What's held by the first mark, at the indentation 1, when the second comes at 2."""
        held = {"blank": [1, 0], "soft": [2, 1], "line": [2, 1], "hard": [2, 1], "gap": [3, 1]}
        for first in MARKS:
            for second in MARKS:
                document = row(A, indented(1, MARKS[first]), indented(2, MARKS[second]), B)
                if second == "blank":
                    expected = held[first]
                else:
                    expected = [3 if "gap" in (first, second) else 2, 2]
                self.assertEqual(look_after(document, 6), [6, 1] + expected + [1, 0, 0, 0], (first, second))

    def test_nothing_is_held_at_the_beginning(self):
        for mark in MARKS.values():
            self.assertEqual(look_after(indented(3, row(mark, A)), 3), [3, 0, 0, 0, 1, 0, 3, 0], mark)

    def test_held_at_0_and_far(self):
        self.assertEqual(look_after(row(A, HARD), 3), [3, 1, 2, 0, 0])
        self.assertEqual(look_after(row(A, GAP), 3), [3, 1, 3, 0, 0])
        far = row([0, 1000] + [97] * 1000, aligned(indented(8, row(GAP, B))))
        self.assertEqual(look_after(far, 6), [6, 1000, 3, 1008, 1, 0, 1008, 0])
        self.assertEqual(look_after(far, 7), [7, 1009, 0, 0, 0])

    def test_column(self):
        document = row(text("abc"), BLANK, B, indented(2, row(HARD, text("de"), GAP, B)), HARD)
        self.assertEqual([found[1] for found in looks(document, 9, 11)], [0, 0, 3, 3, 5, 5, 5, 5, 4, 4, 3, 3])

    def test_first_command_of_every_kind(self):
        for inner in (A, BLANK, SOFT, LINE, HARD, GAP, row(A, HARD), indented(8, A), aligned(A), group(A)):
            self.assertEqual(look_after(indented(2, row(inner, B)), 2), [2, 0, 0, 0, 2, inner[0], 2, 0], inner)
            self.assertEqual(look_after(inner, 0), [0, 0, 0, 0, 1, inner[0], 0, 0], inner)

    def test_first_command_of_every_kind_within_a_group(self):
        for inner in (A, BLANK, SOFT, LINE, row(A, LINE), indented(8, A), aligned(A), group(A)):
            document = indented(2, group(row(inner, B)))
            self.assertEqual(look_after(document, 3), [3, 0, 0, 0, 2, inner[0], 2, 1], inner)
            self.assertEqual(look_after(document, 3, 0), [3, 0, 0, 0, 2, inner[0], 2, 0], inner)
        for inner in (HARD, GAP):
            self.assertEqual(look_after(indented(2, group(row(inner, B))), 3), [3, 0, 0, 0, 2, inner[0], 2, 0], inner)

    def test_flat_goes_inwards(self):
        document = group(row(A, indented(1, aligned(group(row(SOFT, B)))), LINE))
        self.assertEqual([found[5:] for found in looks(document, 9, 9)],
                         [[9, 0, 0], [6, 0, 1], [0, 0, 1], [7, 0, 1], [8, 1, 1], [9, 1, 1], [6, 1, 1], [2, 1, 1],
                          [0, 1, 1], [3, 0, 1]])

    def test_not_flat_behind_a_flat_group(self):
        document = row(group(row(A, LINE)), LINE, B)
        self.assertEqual([found[5:] for found in looks(document, 9, 7)],
                         [[6, 0, 0], [9, 0, 0], [6, 0, 1], [0, 0, 1], [3, 0, 1], [3, 0, 0], [0, 0, 0], []])

    def test_indentation(self):
        document = indented(2, indented(3, row(A, BLANK, aligned(indented(4, HARD)), SOFT)))
        self.assertEqual([found[5:7] for found in looks(document, 9, 8)],
                         [[7, 0], [7, 2], [6, 5], [0, 5], [1, 5], [8, 5], [7, 2], [4, 6], [2, 5]])

    def test_aligned_with_a_break_held(self):
        for mark in (HARD, GAP):
            document = row(text("abcd"), indented(3, mark), aligned(BLANK))
            self.assertEqual(look_after(document, 5)[5:], [1, 3, 0])

    def test_commands_left(self):
        self.assertEqual([found[4] for found in looks(row(row(A, row(), BLANK), group(row(A, B)), SOFT), 9, 10)],
                         [1, 3, 5, 4, 3, 2, 2, 3, 2, 1, 0])
        self.assertEqual(look_after(row(*[BLANK] * 599), 1), [1, 0, 0, 0, 599, 1, 0, 0])

    def test_no_command_left(self):
        for document, answer in ((A, [1, 1, 0, 0, 0]), (row(), [1, 0, 0, 0, 0]), (HARD, [1, 0, 0, 0, 0]),
                                 (row(A, BLANK), [3, 1, 1, 0, 0]), (indented(2, row(A, HARD)), [4, 1, 2, 2, 0]),
                                 (indented(2, row(A, GAP)), [4, 1, 3, 2, 0])):
            self.assertEqual(look_after(document, HUGE), answer, document)

    def test_named_one_is_itself(self):
        for inner in (A, BLANK, SOFT, LINE, HARD, GAP, row(A), indented(8, A), aligned(A), group(A)):
            found = ask(put(inner), put(row(B, named(0))), begin(9, 1), steps(2), look())
            self.assertEqual(found[4], [2, 1, 0, 0, 1, inner[0], 0, 0], inner)
            found = ask(put(inner), put(named(0)), put(indented(3, named(1))), begin(9, 2), look(), steps(1), look())
            self.assertEqual(found[4:], [[0, 0, 0, 0, 1, 7, 0, 0], [1, 1], [1, 0, 0, 0, 1, inner[0], 3, 0]], inner)

    def test_changes_nothing(self):
        found = ask(put(D), begin(6, 0), steps(5), look(), look(), look(), steps(1), look())
        self.assertEqual(found[3:], [[5, 2, 0, 0, 6, 2, 2, 0]] * 3 + [[1, 5], [6, 2, 2, 2, 5, 0, 2, 0]])

    def test_after_back(self):
        self.assertEqual(ask(put(D), begin(6, 0), steps(8), back(2), look())[4], [6, 2, 2, 2, 5, 0, 2, 0])

    def test_no_laying(self):
        self.assertEqual(ask(look()), [[-9]])
        self.assertEqual(ask(put(D), look(), drop(), look())[1::2], [[-9], [-9]])
        self.assertEqual(ask(put(D), begin(-1, 0), look())[2], [-9])


if __name__ == "__main__":
    unittest.main()
