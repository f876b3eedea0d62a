"""Point 10, as far as written goes."""

import unittest

from tests.helper import (BLANK, GAP, HARD, HUGE, LINE, SOFT, aligned, ask, back, begin, drop, group, indented, lay,
                          letters_of, long_document, look, made_documents, put, row, steps, text, written)

A = text("a")
B = text("b")


def written_after(document, taken, width=80):
    answer = ask(put(document), begin(width, 0), steps(taken), written())[3]
    if answer[0] != len(answer) - 1:
        raise AssertionError(f"{answer[0]} was answered ahead of {answer[1:]}")
    return letters_of(answer[1:])


class WrittenTest(unittest.TestCase):
    def test_nothing_written(self):
        for document in (A, row(A, B), group(A)):
            self.assertEqual(written_after(document, 0), "")
        self.assertEqual(ask(put(row(A, B)), begin(5, 0), written(), steps(1), written())[2::2], [[0], [0]])
        for document in (row(), HARD, indented(2, row(GAP, BLANK, LINE))):
            self.assertEqual(written_after(document, HUGE), "")

    def test_in_the_midst(self):
        document = row(text("ab"), indented(2, row(HARD, A, BLANK, B)), GAP, text("cd"))
        found = [written_after(document, taken) for taken in range(12)]
        self.assertEqual(found, ["", "", "ab", "ab", "ab", "ab", "ab\n  a", "ab\n  a", "ab\n  a b", "ab\n  a b",
                                 "ab\n  a b\n\ncd", "ab\n  a b\n\ncd"])

    def test_what_is_held_is_not_written(self):
        for mark in (BLANK, SOFT, LINE, HARD, GAP):
            self.assertEqual(written_after(indented(4, row(A, mark, B)), 4), "a", mark)
            self.assertEqual(written_after(indented(4, row(A, mark)), HUGE), "a", mark)

    def test_in_a_group(self):
        document = group(row(A, LINE, B))
        self.assertEqual([written_after(document, taken, 3) for taken in range(6)], ["", "", "", "a", "a", "a b"])
        self.assertEqual([written_after(document, taken, 2) for taken in range(6)], ["", "", "", "a", "a", "a\nb"])

    def test_every_byte(self):
        codes = [byte for byte in range(256) if byte not in (10, 32)]
        self.assertEqual(ask(put([0, len(codes)] + codes), begin(0, 0), steps(1), written())[3], [254] + codes)

    def test_at_the_end_as_lay(self):
        for document in made_documents(150):
            for width in (0, 5, 11, 30):
                found = ask(put(document), lay(width, 0), begin(width, 0), steps(HUGE), written())
                self.assertEqual(found[4], found[1][2:], (document, width))

    def test_changes_nothing(self):
        found = ask(put(row(A, BLANK, B)), begin(9, 0), steps(3), written(), look(), written(), look(), steps(1),
                    written())
        self.assertEqual(found[3:], [[1, 97], [3, 1, 1, 0, 1, 0, 0, 0]] * 2 + [[1, 0], [3, 97, 32, 98]])

    def test_no_laying(self):
        self.assertEqual(ask(written()), [[-9]])
        self.assertEqual(ask(put(A), written(), drop(), written())[1::2], [[-9], [-9]])
        self.assertEqual(ask(put(A), begin(1001, 0), written())[2], [-9])


class LongTest(unittest.TestCase):
    def test_20000_bytes(self):
        found = ask(put(long_document(964)), lay(80, 0), begin(80, 0), steps(HUGE), written())
        self.assertEqual(found[4][0], 20000)
        self.assertEqual(found[4], found[1][2:])

    def test_more_than_20000_bytes(self):
        for last in (965, 966, 1000):
            found = ask(put(long_document(last)), begin(80, 0), steps(40), written(), steps(1), written(), back(1),
                        written())
            self.assertEqual(found[3][0], 19036)
            self.assertEqual(found[4:], [[1, 0], [-8], [40], found[3]])

    def test_what_is_held_does_not_count(self):
        document = row(long_document(964), HARD, B)
        found = ask(put(document), begin(80, 0), steps(43), look(), written(), steps(1), look(), written())
        self.assertEqual(found[3], [43, 1965, 2, 0, 1, 0, 0, 0])
        self.assertEqual(found[4][0], 20000)
        self.assertEqual(found[5:], [[1, 0], [44, 1, 0, 0, 0], [-8]])

    def test_others_go_on(self):
        document = row([0, 1000] + [97] * 1000, aligned(row(*[HARD, B] * 30)))
        found = ask(put(document), begin(80, 0), steps(50), written(), look(), steps(3), look(), written(), back(1),
                    look(), back(30), written(), steps(HUGE), look(), written())
        self.assertEqual(found[2:11], [[50, 14], [-8], [50, 1001, 0, 0, 14, 4, 1000, 0], [3, 11],
                                       [53, 1001, 2, 1000, 11, 0, 1000, 0], [-8], [52],
                                       [52, 1001, 0, 0, 12, 4, 1000, 0], [22]])
        self.assertEqual(found[11][0], 1000 + 9 * 1002)
        self.assertEqual(found[12:], [[42, 0], [64, 1001, 0, 0, 0], [-8]])


if __name__ == "__main__":
    unittest.main()
