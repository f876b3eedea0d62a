"""Point 3: told and size."""

import unittest

from tests.helper import (BLANK, FAR, GAP, HARD, LINE, MARKS, SOFT, aligned, ask, drop, group, indented,
                          made_documents, named, put, row, size, text, told)


class ToldTest(unittest.TestCase):
    def check(self, document, parts):
        self.assertEqual(ask(put(document), told(0))[1], [parts] + document)

    def test_each_kind(self):
        for mark in MARKS.values():
            self.check(mark, 1)
        self.check(text("a b"), 1)
        self.check(row(), 1)
        self.check(row(row(), row(row())), 4)
        self.check(indented(0, BLANK), 2)
        self.check(indented(8, BLANK), 2)
        self.check(aligned(BLANK), 2)
        self.check(group(BLANK), 2)
        self.check(row(text("a"), group(indented(3, aligned(row(LINE, text("b"))))), GAP), 9)

    def test_told_as_put(self):
        for document in made_documents(100):
            self.assertEqual(ask(put(document), told(0))[1][1:], document)

    def test_names_are_spelled_out(self):
        first = group(row(text("a"), LINE))
        found = ask(put(first), put(row(named(0), HARD, named(0))), put(indented(2, named(1))), told(1), told(2),
                    put(named(0)), told(3))
        second = row(first, HARD, first)
        self.assertEqual(found[3], [10] + second)
        self.assertEqual(found[4], [11, 7, 2] + second)
        self.assertEqual(found[6], [4] + first)

    def test_longest_row(self):
        # 4000 bytes and as many parts with a number as there may be.
        many = row(*[text("a")] * 299)
        found = ask(put(many), put([0, 1000] + [98] * 1000), put(row(named(0), *[named(1)] * 3, *[row()] * 296)),
                    told(2))
        expected = row(many, *[[0, 1000] + [98] * 1000] * 3, *[row()] * 296)
        self.assertEqual(found[3], [600] + expected)

    def test_no_such_document(self):
        for call in (told, size):
            for k in FAR + (0,):
                self.assertEqual(ask(call(k)), [[-2]])
            for k in FAR + (2, 3, 19, 20):
                self.assertEqual(ask(put(BLANK), put(BLANK), call(k))[2], [-2], k)
            self.assertEqual(ask(put(BLANK), drop(), call(0))[2], [-2])


class SizeTest(unittest.TestCase):
    def check(self, document, answer):
        self.assertEqual(ask(put(document), size(0))[1], answer, document)

    def test_each_kind(self):
        self.check(text("abc"), [1, 1, 3, 0, 0])
        self.check(BLANK, [1, 1, 0, 0, 0])
        self.check(SOFT, [1, 1, 0, 0, 0])
        self.check(LINE, [1, 1, 0, 0, 0])
        self.check(HARD, [1, 1, 0, 0, 1])
        self.check(GAP, [1, 1, 0, 0, 1])
        self.check(row(), [1, 1, 0, 0, 0])
        self.check(indented(8, text("a")), [2, 2, 1, 0, 0])
        self.check(aligned(text("ab")), [2, 2, 2, 0, 0])
        self.check(group(text("abc")), [2, 2, 3, 1, 0])

    def test_rows(self):
        self.check(row(row(), row()), [3, 2, 0, 0, 0])
        self.check(row(row(), row(row())), [4, 3, 0, 0, 0])
        self.check(row(row(row()), row()), [4, 3, 0, 0, 0])
        self.check(row(text("ab"), text("c"), group(text("d"))), [5, 3, 4, 1, 0])

    def test_forced_from_within(self):
        self.check(row(BLANK, group(indented(2, aligned(row(text("a"), HARD)))), SOFT), [9, 6, 1, 1, 1])
        self.check(group(group(GAP)), [3, 3, 0, 2, 1])
        self.check(row(GAP, text("a")), [3, 2, 1, 0, 1])

    def test_names(self):
        first = group(row(text("ab"), HARD))
        self.assertEqual(ask(put(first), put(row(named(0), group(named(0)))), size(0), size(1))[2:],
                         [[4, 3, 2, 1, 1], [10, 5, 4, 3, 1]])

    def test_largest(self):
        self.check([9] * 39 + text("a"), [40, 40, 1, 39, 0])
        self.check(row(*[GAP] * 599), [600, 2, 0, 0, 1])


if __name__ == "__main__":
    unittest.main()
