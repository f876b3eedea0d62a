"""Point 4: flat."""

import unittest

from tests.helper import (BLANK, FAR, GAP, HARD, LINE, SOFT, aligned, ask, drop, flat, group, indented, named,
                          on_one_line, put, row, text)

A = text("a")
B = text("b")


class FlatTest(unittest.TestCase):
    def check(self, document, written):
        self.assertEqual(on_one_line(document), written, document)

    def test_forced(self):
        for document in (HARD, GAP, row(A, HARD), group(row(A, indented(2, aligned(GAP)))), row(HARD, group(A))):
            self.assertEqual(ask(put(document), flat(0))[1], [-7], document)
        self.assertEqual(ask(put(HARD), put(row(named(0), A)), flat(1))[2], [-7])

    def test_no_such_document(self):
        for k in FAR + (1, 2, 20):
            self.assertEqual(ask(put(HARD), flat(k))[1], [-2], k)
        self.assertEqual(ask(flat(0)), [[-2]])
        self.assertEqual(ask(put(A), drop(), flat(0))[2], [-2])

    def test_between(self):
        self.check(row(A, B), "ab")
        self.check(row(A, BLANK, B), "a b")
        self.check(row(A, SOFT, B), "ab")
        self.check(row(A, LINE, B), "a b")

    def test_at_the_beginning_and_the_end(self):
        for mark in (BLANK, SOFT, LINE):
            self.check(row(mark, A), "a")
            self.check(row(A, mark), "a")
            self.check(row(mark, mark, A, mark, mark), "a")

    def test_beside_one_another(self):
        for first in (BLANK, LINE):
            for second in (BLANK, SOFT, LINE):
                self.check(row(A, first, second, B), "a b")
                self.check(row(A, second, first, B), "a b")
                self.check(row(A, second, first, second, B), "a b")
        self.check(row(A, SOFT, SOFT, B), "ab")

    def test_without_text(self):
        for document in (BLANK, SOFT, LINE, row(), row(BLANK, LINE), group(indented(4, row(SOFT, BLANK)))):
            self.check(document, "")
            self.assertEqual(ask(put(document), flat(0))[1], [0])

    def test_indentation_and_groups_play_no_part(self):
        self.check(indented(8, row(A, LINE, aligned(row(B, LINE, group(A))))), "a b a")
        self.check(row(A, LINE, group(row(B, SOFT, group(row(A, LINE, B)))), LINE, A), "a ba b a")

    def test_not_in_a_group(self):
        # Laid on one line, not as within some width: here no width holds it.
        long = [0, 1000] + [99] * 1000
        self.check(row(long, LINE, long), "c" * 1000 + " " + "c" * 1000)

    def test_every_byte(self):
        every = [byte for byte in range(256) if byte != 10]
        self.assertEqual(ask(put([0, 255] + every), flat(0))[1], [255] + every)

    def test_longest(self):
        # 600 parts: a group, a row, and two rows of 149 texts and 149 lines.
        word = text("abcdefghijklm")
        half = row(*[part for count in range(149) for part in (word, LINE)])
        found = ask(put(half), put(group(row(named(0), named(0)))), flat(1))
        written = b" ".join([b"abcdefghijklm"] * 298)
        self.assertEqual(found[2], [len(written)] + list(written))


if __name__ == "__main__":
    unittest.main()
