"""Point 6, as far as lines go."""

import unittest

from tests.helper import (BLANK, FAR, GAP, HARD, HUGE, LINE, SOFT, aligned, ask, drop, found_lines, group, groups,
                          indented, laid, lay, lines, made_documents, named, put, row, text)

A = text("a")
B = text("b")
C = text("c")
D = text("d")
THOUSAND = [0, 1000] + [97] * 1000


class LinesTest(unittest.TestCase):
    def check(self, document, width, expected):
        self.assertEqual(found_lines(document, width), expected, (document, width))

    def test_no_bytes(self):
        for document in (row(), BLANK, SOFT, HARD, GAP, row(GAP, HARD, BLANK), group(row(SOFT, LINE)),
                         indented(4, aligned(row(LINE)))):
            for width in (0, 1000):
                self.assertEqual(ask(put(document), lines(width, 0))[1], [0], document)

    def test_one_line(self):
        self.check(A, 0, [(1, 0, 0)])
        self.check(text("a  b"), 9, [(4, 0, 0)])
        self.check(row(A, B, BLANK, C), 9, [(4, 0, 0)])
        self.check([0, 3, 9, 32, 0], 9, [(3, 0, 0)])
        self.check(THOUSAND, 9, [(1000, 0, 0)])

    def test_marks_at_either_end(self):
        for mark in (BLANK, SOFT, LINE, HARD, GAP):
            self.check(indented(3, row(mark, A, mark)), 9, [(1, 0, 0)])

    def test_several(self):
        self.check(row(A, HARD, text("bb"), SOFT, text("ccc"), LINE, text("dd"), BLANK, A), 1000,
                   [(1, 0, 0), (2, 0, 0), (3, 0, 0), (4, 0, 0)])

    def test_empty_lines(self):
        self.check(row(A, GAP, text("bb"), GAP, text("ccc")), 9,
                   [(1, 0, 0), (0, 0, 0), (2, 0, 0), (0, 0, 0), (3, 0, 0)])
        self.check(row(A, indented(3, row(GAP, B, HARD, GAP, HARD, C)), HARD, D), 9,
                   [(1, 0, 0), (0, 0, 0), (4, 3, 0), (0, 0, 0), (4, 3, 0), (1, 0, 0)])
        flat_one = group(row(A, LINE, B))
        self.check(row(flat_one, GAP, flat_one), 9, [(3, 0, 1), (0, 0, 0), (3, 0, 1)])

    def test_indented(self):
        self.check(row(A, indented(2, row(HARD, B, indented(8, row(HARD, C)), HARD, D)), HARD, A), 9,
                   [(1, 0, 0), (3, 2, 0), (11, 10, 0), (3, 2, 0), (1, 0, 0)])
        self.check(row(A, indented(0, row(HARD, B))), 9, [(1, 0, 0), (1, 0, 0)])

    def test_aligned(self):
        self.check(row(text("ab"), BLANK, aligned(row(A, HARD, B, BLANK, C)), HARD, D), 9,
                   [(4, 0, 0), (6, 3, 0), (1, 0, 0)])
        self.check(row(text("ab"), aligned(indented(2, row(HARD, C, GAP, D)))), 9,
                   [(2, 0, 0), (5, 4, 0), (0, 0, 0), (5, 4, 0)])

    def test_blanks_within_a_text_are_no_indentation(self):
        self.check(row(A, indented(2, row(HARD, text("b   c"), BLANK, D))), 9, [(1, 0, 0), (9, 2, 0)])

    def test_last_held_counts(self):
        self.check(row(A, indented(4, HARD), indented(1, SOFT), B), 9, [(1, 0, 0), (2, 1, 0)])

    def test_long_line(self):
        self.check(row(THOUSAND, BLANK, THOUSAND, A), 0, [(2002, 0, 0)])

    def test_refusals(self):
        for w in FAR + (1001, 1002):
            self.assertEqual(ask(put(A), lines(w, 0), lines(w, 1), lines(w, HUGE))[1:], [[-3], [-3], [-3]], w)
        for w in (0, 1, 999, 1000):
            self.assertEqual(ask(put(A), lines(w, 0))[1], [1, 1, 0, 0], w)
        for k in FAR + (1, 2, 20):
            self.assertEqual(ask(put(A), lines(5, k))[1], [-2], k)
        self.assertEqual(ask(lines(5, 0)), [[-2]])
        self.assertEqual(ask(put(A), drop(), lines(5, 0))[2], [-2])

    def test_more_than_20000_bytes_are_no_refusal(self):
        far = row(THOUSAND, aligned(row(*[HARD, B] * 30)))
        found = ask(put(far), lay(80, 0), lines(80, 0))
        self.assertEqual(found[1], [-8])
        self.assertEqual(found[2], [31, 1000, 0, 0] + [1001, 1000, 0] * 30)
        farther = row(named(0), named(0), named(0), aligned(row(*[GAP, group(row(B, SOFT, C))] * 90)))
        found = ask(put(THOUSAND), put(farther), lay(1000, 1), lines(1000, 1), groups(1000, 1))
        self.assertEqual(found[2], [-8])
        self.assertEqual(found[3], [271, 3000, 0, 0] + [0, 0, 0, 3001, 3000, 0, 3001, 3000, 0] * 90)
        self.assertEqual(found[4], [90] + [0] * 90)

    def test_as_lay_answers(self):
        for document in made_documents(150):
            for width in (0, 3, 7, 12, 30):
                letters = laid(document, width)
                pieces = letters.split("\n") if letters else []
                self.assertEqual([line[:2] for line in found_lines(document, width)],
                                 [(len(piece), len(piece) - len(piece.lstrip(" "))) for piece in pieces],
                                 (document, width))


class FlatBreaksTest(unittest.TestCase):
    def check(self, document, counts, width=80):
        self.assertEqual([line[2] for line in found_lines(document, width)], counts, document)

    def test_between_texts(self):
        self.check(group(row(A, LINE, B)), [1])
        self.check(group(row(A, SOFT, B)), [1])
        self.check(group(row(A, LINE, B, SOFT, C, LINE, D)), [3])
        self.check(group(row(A, LINE, LINE, SOFT, SOFT, B)), [4])

    def test_other_marks_do_not_count(self):
        self.check(group(row(A, BLANK, B, C)), [0])
        self.check(group(row(A, BLANK, LINE, BLANK, SOFT, BLANK, B)), [2])

    def test_ahead_of_the_first_text(self):
        self.check(group(row(SOFT, LINE, A)), [0])
        self.check(group(row(SOFT, LINE, A, SOFT, B)), [1])
        self.check(row(A, HARD, group(row(LINE, SOFT, B))), [0, 0])
        self.check(row(A, HARD, group(row(LINE, SOFT, B, LINE, C))), [0, 1])
        self.check(row(A, GAP, group(row(SOFT, B, LINE, SOFT, C))), [0, 0, 2])

    def test_behind_the_last_text(self):
        self.check(group(row(A, LINE, SOFT)), [0])
        self.check(group(row(A, LINE, B, LINE, SOFT)), [1])
        self.check(row(group(row(A, LINE, B, LINE, SOFT)), HARD, C), [1, 0])
        self.check(row(group(row(A, SOFT)), GAP, C), [0, 0, 0])

    def test_on_either_side_of_a_break(self):
        first = group(row(A, SOFT, B, LINE, SOFT))
        second = group(row(LINE, SOFT, A, SOFT, SOFT, B))
        for ending, between in ((HARD, []), (LINE, []), (SOFT, []), (row(BLANK, HARD, BLANK), []), (GAP, [0])):
            self.check(row(first, ending, second), [1] + between + [2])

    def test_behind_one_line_and_ahead_of_the_next_alone(self):
        self.check(row(A, group(LINE), HARD, group(SOFT), B), [0, 0])
        self.check(row(A, group(LINE), GAP, group(SOFT), B, group(SOFT), C), [0, 0, 1])

    def test_several_groups_on_a_line(self):
        self.check(row(group(row(A, LINE, B)), BLANK, group(row(C, SOFT, SOFT, D))), [3])
        self.check(row(A, group(SOFT), group(LINE), B), [2])
        self.check(row(group(row(A, LINE)), group(row(LINE, B)), HARD, group(row(C, LINE)), D), [2, 1])
        self.check(group(row(A, LINE, group(row(B, SOFT, group(row(C, LINE, D)))))), [3])

    def test_broken_ones_do_not_count(self):
        document = group(row(A, LINE, group(row(B, SOFT, C)), LINE, D))
        self.check(document, [3], 6)
        self.check(document, [0, 1, 0], 5)
        self.check(document, [0, 0, 0, 0], 1)
        # The mark isn't flat, and no break comes, since nothing is written yet.
        self.check(row(LINE, SOFT, A), [0])

    def test_forced_group(self):
        self.check(group(row(group(row(A, LINE, B)), BLANK, group(row(C, LINE, D)), HARD, A)), [2, 0])

    def test_with_indentation(self):
        document = row(A, indented(2, row(HARD, group(row(SOFT, B, LINE, aligned(row(C, SOFT, D)), SOFT)))), HARD, A)
        self.assertEqual(found_lines(document, 80), [(1, 0, 0), (6, 2, 2), (1, 0, 0)])

    def test_by_name(self):
        word = group(row(A, LINE, B))
        self.assertEqual(ask(put(word), put(row(named(0), BLANK, named(0), HARD, named(0))), lines(9, 1))[2],
                         [2, 7, 0, 2, 3, 0, 1])


if __name__ == "__main__":
    unittest.main()
