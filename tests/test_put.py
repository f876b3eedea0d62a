"""Point 1: put."""

import unittest

from tests.helper import (BLANK, FAR, GAP, HARD, HUGE, LINE, MARKS, SOFT, aligned, ask, drop, group, indented,
                          named, put, row, size, text, told)

NO_ROW = [-1]
TOO_LARGE = [-4]
FULL = [-5]


def long_text(count):
    return [0, count] + [97] * count


def nested(count, document):
    """The document within so many groups."""
    return [9] * count + document


class PutTest(unittest.TestCase):
    def check(self, document, answer):
        self.assertEqual(ask(put(document)), [answer], document[:20])

    def refused(self, *documents):
        for document in documents:
            self.check(document, NO_ROW)

    def test_numbers_in_order(self):
        found = ask(*[put(BLANK) for count in range(20)])
        self.assertEqual(found, [[number] for number in range(20)])

    def test_every_kind(self):
        for document in list(MARKS.values()) + [
                text("a"), text("a b"), row(), row(BLANK), row(text("a"), SOFT, row()), indented(0, LINE),
                indented(8, text("a")), aligned(HARD), group(GAP), group(row(text("a"), LINE))]:
            self.check(document, [0])
        self.assertEqual(ask(put(BLANK), put(named(0)), put(row(named(1), named(0)))), [[0], [1], [2]])

    def test_empty_row(self):
        self.refused([])

    def test_cut_short(self):
        self.refused([0], [0, 1], [0, 2, 97], [0, 3, 97, 98], [6], [6, 1], [6, 2, 1], [6, 2, 6, 1, 1], [7], [7, 2],
                     [8], [9], [10], [9, 9], [8, 7, 1], [6, 1000, 1])

    def test_counts_below_0(self):
        self.refused([0, -1], [0, -1, 97], [6, -1], [6, -1, 1], [6, -2])

    def test_count_greater_than_what_follows(self):
        self.refused([6, 3, 1, 1], [6, HUGE], [6, HUGE, 1, 1], [6, 2 ** 31, 1], [0, HUGE, 97], [0, 1000, 97])

    def test_numbers_behind(self):
        self.refused([1, 1], [6, 0, 0], [6, 1, 1, 1], [0, 1, 97, 97], [7, 2, 1, 1], [8, 1, 1], [9, 1, 9], [1, -1])
        self.assertEqual(ask(put(BLANK), put(named(0) + [0]))[1], NO_ROW)

    def test_kinds_outside(self):
        self.refused([-1], [11], [11, 0], [-1, 1], [6, 1, 11], [6, 1, -1], [9, 12], [8, -2])

    def test_length_of_text(self):
        self.refused([0, 0], [6, 1, 0, 0], long_text(1001))
        self.check(long_text(1), [0])
        self.check(long_text(1000), [0])

    def test_bytes_of_text(self):
        for byte in (-1, 10, 32, 256, -HUGE, HUGE):
            self.refused([0, 1, byte])
        for byte in (-1, 10, 256, -HUGE, HUGE):
            self.refused([0, 3, 97, byte, 97])
        for byte in range(256):
            if byte not in (10, 32):
                self.check([0, 1, byte], [0])

    def test_blank_in_text(self):
        self.refused([0, 2, 32, 97], [0, 2, 97, 32], [0, 3, 32, 97, 32], [0, 2, 32, 32])
        self.check([0, 3, 97, 32, 97], [0])
        self.check([0, 4, 97, 32, 32, 97], [0])

    def test_indentation(self):
        for number in range(9):
            self.check(indented(number, BLANK), [0])
        self.refused(indented(-1, BLANK), indented(9, BLANK), indented(HUGE, BLANK), indented(-HUGE, BLANK))

    def test_named(self):
        self.refused(named(0), row(named(0)))
        for k in FAR + (2, 3, 19, 20):
            self.assertEqual(ask(put(BLANK), put(BLANK), put(named(k)))[2], NO_ROW, k)
        self.assertEqual(ask(put(BLANK), put(BLANK), put(named(0)), drop(), put(named(1)))[2:], [[2], [2], [2]])
        self.assertEqual(ask(put(BLANK), put(BLANK), drop(), put(named(1)))[3], NO_ROW)

    def test_huge_numbers_everywhere(self):
        whole = row(text("ab"), indented(2, LINE), aligned(SOFT), group(row(BLANK)))
        for place in range(len(whole)):
            for number in (-HUGE, HUGE):
                self.refused(whole[:place] + [number] + whole[place + 1:])

    def test_standing_in_others(self):
        for outer in ([9], [8], [7, 1], [6, 1]):
            self.check(outer * 39 + BLANK, [0])
            self.check(outer * 40 + BLANK, NO_ROW)
            self.check(outer * 39 + row(), [0])
            self.check(outer * 40 + row(), NO_ROW)
            self.check(outer * 41 + BLANK, NO_ROW)
        self.check(row(BLANK, nested(38, BLANK), BLANK), [0])
        self.check(row(BLANK, nested(39, BLANK), BLANK), NO_ROW)
        self.check(row(*[nested(38, BLANK)] * 3), [0])

    def test_what_is_named_stands_without_others(self):
        deep = nested(39, BLANK)
        self.assertEqual(ask(put(BLANK), put(nested(39, named(0))))[1], [1])
        self.assertEqual(ask(put(BLANK), put(nested(40, named(0))))[1], NO_ROW)
        # The row is a document's row here, so it's the document that is too large.
        self.assertEqual(ask(put(deep), put(nested(39, named(0))))[1], TOO_LARGE)
        self.assertEqual(ask(put(deep), put(nested(40, named(0))))[1], NO_ROW)

    def test_parts(self):
        self.check(row(*[BLANK] * 599), [0])
        self.check(row(*[BLANK] * 600), TOO_LARGE)
        self.check(row(*[SOFT] * 2998), TOO_LARGE)
        self.check([6, 300] + [9, 1] * 299 + [1], [0])
        self.check([6, 300] + [9, 1] * 300, TOO_LARGE)

    def test_parts_by_names(self):
        half = row(*[BLANK] * 298)
        self.assertEqual(ask(put(half), put(row(named(0), named(0), BLANK)), size(1))[1:], [[1], [600, 3, 0, 0, 0]])
        self.assertEqual(ask(put(half), put(row(named(0), named(0), BLANK, BLANK)))[1], TOO_LARGE)
        full = row(*[BLANK] * 599)
        self.assertEqual(ask(put(full), put(named(0)), put(row(named(0))))[1:], [[1], TOO_LARGE])
        self.assertEqual(ask(put(full), put(row(*[named(0)] * 1499)))[1], TOO_LARGE)

    def test_depth_by_names(self):
        deep = nested(39, BLANK)
        self.assertEqual(ask(put(deep), put(named(0)), size(1))[1:], [[1], [40, 40, 0, 39, 0]])
        for outer in ([9], [8], [7, 0], [6, 1]):
            self.assertEqual(ask(put(deep), put(outer + named(0)))[1], TOO_LARGE)
        half = nested(19, BLANK)
        self.assertEqual(ask(put(half), put(nested(20, named(0))), put(nested(21, named(0))))[1:], [[1], TOO_LARGE])

    def test_bytes(self):
        four = [long_text(1000)] * 4
        # A row has at most 3000 numbers, so more bytes than that come by names.
        self.assertEqual(ask(put(four[0]), put(row(*[named(0)] * 4)), size(1))[1:], [[1], [5, 2, 4000, 0, 0]])
        self.assertEqual(ask(put(four[0]), put(row(*[named(0)] * 4, text("a"))))[1], TOO_LARGE)
        self.assertEqual(ask(put(four[0]), put(row(*[named(0)] * 5)))[1], TOO_LARGE)

    def test_21st(self):
        twenty = [put(BLANK) for count in range(20)]
        self.assertEqual(ask(*twenty, put(BLANK), size(20), drop(), put(SOFT), told(19))[20:],
                         [FULL, [-2], [19], [19], [1, 2]])

    def test_which_refusal_is_first(self):
        full = [put(row(*[BLANK] * 599))] + [put(nested(39, BLANK))] + [put(BLANK) for count in range(18)]
        for document, answer in (([], NO_ROW), (named(20), NO_ROW), (row(named(0)), TOO_LARGE),
                                 (group(named(1)), TOO_LARGE), (named(0), FULL), (BLANK, FULL),
                                 (nested(40, named(0)), NO_ROW), (nested(39, named(0)), TOO_LARGE)):
            self.assertEqual(ask(*full, put(document))[20], answer, document)
        # Too large at the front, no document's row at the end.
        self.check(row(*[BLANK] * 2000) + [1], NO_ROW)
        self.check([6, 701] + [1] * 700 + [11], NO_ROW)
        self.assertEqual(ask(*full[:1], put([6, 3] + named(0) * 2 + [10, 1]))[1], NO_ROW)


if __name__ == "__main__":
    unittest.main()
