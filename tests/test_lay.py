"""Point 5: lay, and laying's steps as they show in what is written."""

import unittest

from tests.helper import (BLANK, FAR, GAP, HARD, HUGE, LINE, MARKS, SOFT, aligned, ask, drop, flat_groups, group,
                          groups, indented, laid, lay, long_document, named, put, row, text)

A = text("a")
B = text("b")
C = text("c")
D = text("d")

HELD = {"nothing": [], "blank": [BLANK], "break": [HARD], "empty line": [GAP]}


class MarksTest(unittest.TestCase):
    """Every mark, at the indentation 2, with each of what may be held."""

    def check(self, mark, within, written):
        for held, expected in zip(HELD, written, strict=True):
            document = row(A, *HELD[held], within(indented(2, MARKS[mark])), B)
            self.assertEqual(laid(document, 1000), expected, (mark, held))

    def test_not_flat(self):
        def same(document):
            return document
        self.check("blank", same, ["a b", "a b", "a\nb", "a\n\nb"])
        for mark in ("soft", "line", "hard"):
            self.check(mark, same, ["a\n  b", "a\n  b", "a\n  b", "a\n\n  b"])
        self.check("gap", same, ["a\n\n  b"] * 4)

    def test_flat(self):
        self.check("blank", group, ["a b", "a b", "a\nb", "a\n\nb"])
        self.check("soft", group, ["ab", "a b", "a\nb", "a\n\nb"])
        self.check("line", group, ["a b", "a b", "a\nb", "a\n\nb"])

    def test_forced_groups_are_not_flat(self):
        self.check("hard", group, ["a\n  b", "a\n  b", "a\n  b", "a\n\n  b"])
        self.check("gap", group, ["a\n\n  b"] * 4)

    def test_at_the_beginning(self):
        for first in MARKS.values():
            self.assertEqual(laid(row(first, A), 9), "a")
            self.assertEqual(laid(group(indented(3, row(first, A))), 9), "a")
            for second in MARKS.values():
                self.assertEqual(laid(indented(3, row(first, second, A, B)), 9), "ab")

    def test_at_the_end(self):
        for first in MARKS.values():
            for second in MARKS.values():
                self.assertEqual(laid(indented(3, row(A, first, second)), 9), "a")

    def test_last_indentation_counts(self):
        self.assertEqual(laid(row(A, indented(4, HARD), indented(1, HARD), B), 9), "a\n b")
        self.assertEqual(laid(row(A, indented(1, GAP), indented(4, SOFT), B), 9), "a\n\n    b")
        self.assertEqual(laid(row(A, indented(1, GAP), indented(4, GAP), B), 9), "a\n\n    b")
        self.assertEqual(laid(row(A, indented(4, GAP), HARD, B), 9), "a\n\nb")

    def test_after_a_text_nothing_is_held(self):
        self.assertEqual(laid(row(A, BLANK, B, C, HARD, D, A, GAP, B, C), 9), "a bc\nda\n\nbc")

    def test_no_text(self):
        for document in (row(), BLANK, HARD, GAP, row(GAP, LINE, group(SOFT)), aligned(row(HARD))):
            self.assertEqual(ask(put(document), lay(5, 0))[1], [0, 0, 0])


class IndentationTest(unittest.TestCase):
    def check(self, document, written):
        self.assertEqual(laid(document, 1000), written, document)

    def test_indented(self):
        self.check(indented(2, row(A, HARD, B)), "a\n  b")
        self.check(indented(0, row(A, HARD, B)), "a\nb")
        self.check(indented(8, row(A, HARD, B)), "a\n        b")

    def test_indented_within_indented(self):
        self.check(indented(2, row(A, HARD, indented(3, row(B, HARD, C)), HARD, D)), "a\n  b\n     c\n  d")
        self.check(row(A, [7, 8] * 10 + row(HARD, B), HARD, C), "a\n" + " " * 80 + "b\nc")

    def test_aligned(self):
        inner = aligned(row(C, HARD, D))
        self.check(row(text("ab"), inner), "abc\n  d")
        self.check(row(text("ab"), BLANK, inner), "ab c\n   d")
        self.check(row(text("ab"), indented(3, row(HARD, inner))), "ab\n   c\n   d")
        self.check(row(text("ab"), indented(3, row(GAP, inner))), "ab\n\n   c\n   d")
        self.check(inner, "c\nd")
        self.check(row(HARD, inner), "c\nd")
        self.check(indented(5, inner), "c\nd")

    def test_aligned_takes_the_place_of_indentation(self):
        self.check(indented(4, row(A, aligned(row(B, HARD, C)), HARD, D)), "ab\n c\n    d")

    def test_indented_within_aligned(self):
        self.check(row(text("ab"), aligned(indented(2, row(C, HARD, D)))), "abc\n    d")

    def test_aligned_within_aligned(self):
        inner = aligned(row(text("bb"), HARD, C))
        self.check(row(A, aligned(row(A, inner, HARD, D))), "aabb\n  c\n d")

    def test_aligned_where_a_held_break_moves(self):
        self.check(row(A, indented(6, HARD), indented(2, HARD), aligned(row(B, HARD, C))), "a\n  b\n  c")

    def test_groups_keep_the_indentation(self):
        self.assertEqual(laid(indented(2, group(row(A, LINE, group(row(B, LINE, C))))), 0), "a\n  b\n  c")

    def test_aligned_in_a_flat_group(self):
        flat_one = group(row(A, LINE, aligned(row(B, LINE, C))))
        self.assertEqual(laid(row(flat_one, HARD, D), 5), "a b c\nd")
        self.assertEqual(laid(row(flat_one, HARD, D), 4), "a\nb\nc\nd")


class GroupsTest(unittest.TestCase):
    def check(self, document, width, written):
        self.assertEqual(laid(document, width), written, (document, width))

    def test_fits_just(self):
        document = group(row(text("aa"), LINE, text("bb")))
        self.check(document, 5, "aa bb")
        self.check(document, 4, "aa\nbb")
        self.check(document, 0, "aa\nbb")
        self.check(document, 1000, "aa bb")

    def test_held_blank_counts(self):
        document = row(A, BLANK, group(row(B, SOFT, C)))
        self.check(document, 4, "a bc")
        self.check(document, 3, "a b\nc")

    def test_held_break_counts_with_its_indentation(self):
        document = row(text("aaaaaa"), indented(2, row(HARD, group(row(B, LINE, C)))))
        self.check(document, 5, "aaaaaa\n  b c")
        self.check(document, 4, "aaaaaa\n  b\n  c")
        document = row(text("aaaaaa"), indented(2, row(GAP, group(row(B, LINE, C)))))
        self.check(document, 5, "aaaaaa\n\n  b c")
        self.check(document, 4, "aaaaaa\n\n  b\n  c")

    def test_blank_at_its_end_does_not_count(self):
        document = group(row(A, LINE, B, LINE, BLANK))
        self.check(document, 3, "a b")
        self.check(document, 2, "a\nb")

    def test_what_stands_behind_counts(self):
        first = group(row(A, LINE, B))
        for behind, width in ((text("cc"), 5), (row(BLANK, C), 5), (row(indented(2, aligned(row(C))), D), 5),
                              (row(text("cc"), LINE, D), 5), (row(BLANK, BLANK, C, SOFT), 5)):
            self.assertEqual(flat_groups(row(first, behind), width)[0], 1, behind)
            self.assertEqual(flat_groups(row(first, behind), width - 1)[0], 0, behind)

    def test_first_place_where_a_line_might_end(self):
        first = group(row(A, LINE, B))
        far = text("cccccccccc")
        for end in (SOFT, LINE, HARD, GAP, indented(2, aligned(LINE)), group(SOFT), group(row(LINE, far)),
                    group(row(SOFT, HARD))):
            self.assertEqual(flat_groups(row(first, end, far), 3)[0], 1, end)
            self.assertEqual(flat_groups(row(first, BLANK, end, far), 3)[0], 1, end)
            self.assertEqual(flat_groups(row(first, C, end, far), 3)[0], 0, end)
            self.assertEqual(flat_groups(row(first, C, end, far), 4)[0], 1, end)
        for no_end in (BLANK, row(), group(BLANK), group(row()), indented(2, row())):
            self.assertEqual(flat_groups(row(first, no_end, far), 3)[0], 0, no_end)

    def test_behind_an_outer_group(self):
        # What stands behind the outer group counts for the inner one, too.
        inner = group(row(B, LINE, C))
        document = row(group(row(A, LINE, inner)), text("dd"))
        self.check(document, 7, "a b cdd")
        self.check(document, 6, "a\nb cdd")
        self.check(document, 5, "a\nb cdd")
        self.check(document, 4, "a\nb\ncdd")

    def test_group_behind_is_not_asked_beforehand(self):
        document = row(group(row(A, LINE, B)), group(row(C, SOFT, D)))
        self.check(document, 5, "a bcd")
        self.check(document, 4, "a bc\nd")
        self.check(document, 3, "a\nbcd")
        self.check(document, 2, "a\nbc\nd")

    def test_flat_within_flat(self):
        document = group(row(A, LINE, group(row(B, SOFT, group(row(C, LINE, D))))))
        self.check(document, 6, "a bc d")
        self.check(document, 5, "a\nbc d")
        self.check(document, 4, "a\nbc d")
        self.check(document, 3, "a\nb\nc d")
        self.check(document, 2, "a\nb\nc\nd")

    def test_forced_groups(self):
        document = group(row(A, LINE, group(row(B, LINE, C)), HARD, D))
        self.check(document, 1000, "a\nb c\nd")
        self.check(document, 2, "a\nb\nc\nd")
        self.check(group(row(group(row(A, LINE, B)), LINE, group(GAP), C)), 1000, "a b\n\nc")

    def test_marks_outside_groups_are_not_flat(self):
        self.check(row(A, LINE, B, SOFT, C), 1000, "a\nb\nc")

    def test_without_text_to_come(self):
        # No text is written in thought, so the column, which is too great already, plays no part.
        for end in (HARD, LINE, row()):
            self.assertEqual(flat_groups(row(text("aaaa"), group(LINE), end), 2), [1], end)
        self.assertEqual(flat_groups(row(text("aaaa"), group(LINE), B), 2), [0])
        self.check(row(text("aaaa"), group(LINE), B), 2, "aaaa\nb")

    def test_thought_leaves_no_trace(self):
        document = row(A, BLANK, group(row(B, LINE, C)), BLANK, group(row(D, LINE, A)))
        self.check(document, 4, "a b\nc d\na")
        self.check(document, 9, "a b c d a")

    def test_within_0(self):
        self.check(group(row(A, SOFT, B)), 0, "a\nb")
        self.assertEqual(flat_groups(group(row(SOFT, LINE)), 0), [1])

    def test_within_1000(self):
        for count, written in ((998, "{} b"), (999, "{}\nb")):
            document = group(row([0, count] + [97] * count, LINE, B))
            self.check(document, 1000, written.format("a" * count))


class RefusalsTest(unittest.TestCase):
    def test_width(self):
        for w in FAR + (1001, 1002):
            self.assertEqual(ask(put(A), lay(w, 0))[1], [-3], w)
        for w in (0, 1, 999, 1000):
            self.assertEqual(ask(put(A), lay(w, 0))[1], [1, 1, 1, 97], w)

    def test_no_such_document(self):
        self.assertEqual(ask(lay(5, 0)), [[-2]])
        for k in FAR + (1, 2, 20):
            self.assertEqual(ask(put(A), lay(5, k))[1], [-2], k)
        self.assertEqual(ask(put(A), drop(), lay(5, 0))[2], [-2])

    def test_20000_bytes(self):
        for w in (0, 1000):
            answer = ask(put(long_document(964)), lay(w, 0))[1]
            self.assertEqual(answer[:3], [19, 1965, 20000])
            self.assertEqual(len(answer), 20003)
            self.assertEqual(ask(put(long_document(965)), lay(w, 0))[1], [-8])

    def test_far_more_bytes(self):
        thousand = [0, 1000] + [97] * 1000
        lines = [part for count in range(290) for part in (HARD, B)]
        found = ask(put(thousand), put(row(named(0), named(0), named(0), aligned(row(*lines)))), lay(80, 1),
                    groups(80, 1), put(A), lay(80, 2))
        self.assertEqual(found[1:], [[1], [-8], [0], [2], [1, 1, 1, 97]])

    def test_which_refusal_is_first(self):
        long = put(long_document(965))
        self.assertEqual(ask(long, lay(1001, 0), lay(-1, 0), lay(HUGE, 1), lay(-1, -1), lay(1001, HUGE), lay(5, 1)),
                         [[0], [-3], [-3], [-3], [-3], [-3], [-2]])


if __name__ == "__main__":
    unittest.main()
