"""Point 6, as far as groups go."""

import unittest

from tests.helper import (BLANK, FAR, GAP, HARD, LINE, SOFT, aligned, ask, drop, flat_groups, group, groups,
                          indented, named, put, row, text)

A = text("a")
B = text("b")
LONG = text("cccccccccc")


class GroupsTest(unittest.TestCase):
    def check(self, document, width, answer):
        self.assertEqual(flat_groups(document, width), answer, (document, width))

    def test_without_groups(self):
        for document in (A, BLANK, GAP, row(), row(A, LINE, B), indented(2, aligned(row(HARD)))):
            self.check(document, 0, [])
            self.assertEqual(ask(put(document), groups(5, 0))[1], [0])

    def test_one_beside_another(self):
        document = row(group(A), HARD, group(LONG), HARD, group(B), HARD, group(row(LONG, LINE, A)))
        self.check(document, 1, [1, 0, 1, 0])
        self.check(document, 10, [1, 1, 1, 0])
        self.check(document, 12, [1, 1, 1, 1])

    def test_outer_ahead_of_inner(self):
        document = group(row(group(row(A, LINE, group(B))), LINE, group(LONG), LINE, group(A)))
        self.check(document, 0, [0, 0, 0, 0, 0])
        self.check(document, 1, [0, 0, 1, 0, 1])
        self.check(document, 3, [0, 1, 1, 0, 1])
        self.check(document, 10, [0, 1, 1, 1, 1])
        self.check(document, 15, [0, 1, 1, 1, 1])
        self.check(document, 16, [1, 1, 1, 1, 1])

    def test_groups_of_groups(self):
        self.check([9] * 39 + A, 0, [0] * 39)
        self.check([9] * 39 + A, 1, [1] * 39)
        self.check([9] * 39 + HARD, 1000, [0] * 39)

    def test_within_flat_ones(self):
        self.check(group(row(group(A), indented(2, aligned(row(group(SOFT), group(row())))))), 9, [1, 1, 1, 1])

    def test_forced(self):
        self.check(row(group(HARD), group(GAP), group(A), group(row(group(B), group(HARD)))), 9, [0, 0, 1, 0, 1, 0])

    def test_by_name(self):
        document = group(row(A, LINE, B))
        found = ask(put(document), put(row(named(0), LINE, group(row(named(0), LONG)))), groups(3, 1), groups(13, 1))
        self.assertEqual(found[2:], [[3, 1, 0, 0], [3, 1, 1, 1]])

    def test_refusals(self):
        for w in FAR + (1001,):
            self.assertEqual(ask(put(group(A)), groups(w, 0), groups(w, 1))[1:], [[-3], [-3]], w)
        for w in (0, 1000):
            self.assertEqual(ask(put(group(A)), groups(w, 0))[1], [1, 1 if w else 0])
        for k in FAR + (1, 20):
            self.assertEqual(ask(put(group(A)), groups(5, k))[1], [-2], k)
        self.assertEqual(ask(groups(5, 0)), [[-2]])
        self.assertEqual(ask(put(A), drop(), groups(5, 0))[2], [-2])

    def test_more_than_20000_bytes_are_no_refusal(self):
        lines = [part for count in range(30) for part in (HARD, group(B))]
        document = row([0, 1000] + [97] * 1000, aligned(row(*lines)))
        self.check(document, 1000, [0] * 30)


if __name__ == "__main__":
    unittest.main()
