"""Point 7: least."""

import unittest

from tests.helper import (BLANK, FAR, GAP, HARD, LINE, SOFT, aligned, ask, begin, drop, forced_groups, group, groups,
                          indented, lay, least, made_documents, named, put, row, text, told, tree)

A = text("a")
B = text("b")
C = text("c")
D = text("d")
TEN = text("cccccccccc")
THOUSAND = [0, 1000] + [97] * 1000
PAIR = group(row(A, LINE, B))


class LeastTest(unittest.TestCase):
    def check(self, document, width):
        self.assertEqual(ask(put(document), least(0))[1], [width], document)

    def test_without_groups(self):
        for document in (A, TEN, row(), BLANK, LINE, HARD, row(TEN, LINE, TEN, HARD, TEN), indented(3, aligned(TEN))):
            self.check(document, 0)

    def test_forced_groups_alone(self):
        for document in (group(HARD), group(GAP), group(row(TEN, LINE, TEN, HARD)), group(group(row(TEN, GAP, TEN))),
                         row(group(row(TEN, HARD)), LINE, group(indented(2, row(GAP, TEN))))):
            self.check(document, 0)

    def test_one_group(self):
        self.check(group(A), 1)
        self.check(group(TEN), 10)
        self.check(PAIR, 3)
        self.check(group(row(A, SOFT, B)), 2)
        self.check(group(row(A, BLANK, LINE, BLANK, B)), 3)

    def test_groups_without_text(self):
        self.check(group(row()), 0)
        self.check(group(row(SOFT, LINE, BLANK)), 0)
        self.check(row(TEN, group(LINE), HARD, A), 0)
        self.check(row(TEN, group(LINE)), 0)
        self.check(row(TEN, group(LINE), A), 12)
        self.check(row(TEN, group(SOFT), A), 11)

    def test_blanks_at_its_end_do_not_count(self):
        self.check(group(row(A, LINE, B, LINE, BLANK)), 3)
        self.check(row(PAIR, BLANK, HARD, TEN), 3)

    def test_groups_in_forced_groups(self):
        self.check(group(row(TEN, HARD, PAIR)), 3)
        self.check(group(row(TEN, indented(2, row(HARD, PAIR)))), 5)
        self.check(group(row(group(row(PAIR, GAP)), LINE, group(row(A, SOFT, B, SOFT, C, SOFT, D)))), 4)
        self.check(group(row(TEN, LINE, PAIR, LINE, TEN, HARD)), 3)

    def test_groups_in_groups(self):
        self.check(group(row(A, LINE, group(row(B, LINE, C)))), 5)
        self.check(group(row(A, LINE, group(TEN), LINE, B)), 14)
        self.check([9] * 39 + A, 1)
        self.check([9] * 39 + HARD, 0)

    def test_what_stands_behind(self):
        self.check(row(PAIR, text(";")), 4)
        self.check(row(PAIR, BLANK, TEN), 14)
        self.check(row(PAIR, indented(2, aligned(row(C))), D, SOFT, TEN), 5)
        for end in (SOFT, LINE, HARD, GAP, group(row(LINE, HARD))):
            self.check(row(PAIR, C, end, TEN), 4)
        self.check(row(group(row(A, LINE, group(row(B, SOFT)))), text("dd")), 5)

    def test_what_stands_before(self):
        self.check(row(TEN, PAIR), 13)
        self.check(row(TEN, BLANK, PAIR), 14)
        self.check(row(TEN, HARD, PAIR), 3)
        self.check(row(TEN, indented(4, row(HARD, PAIR))), 7)
        self.check(row(TEN, indented(4, row(GAP, PAIR))), 7)
        self.check(row(TEN, LINE, PAIR), 3)
        self.check(row(text("dd"), aligned(row(HARD, PAIR))), 5)

    def test_greatest_of_several(self):
        self.check(row(group(TEN), HARD, PAIR), 10)
        self.check(row(PAIR, HARD, group(TEN)), 10)
        self.check(row(PAIR, HARD, group(TEN), HARD, PAIR), 10)
        self.check(row(PAIR, BLANK, PAIR), 7)

    def test_one_counts_as_flat_for_those_behind_it(self):
        # Within 11 the first is broken, and the second, which begins at a lesser column then, would fit.
        document = row(group(row(TEN, LINE, A)), aligned(row(HARD, PAIR)))
        self.check(document, 15)
        self.assertEqual(ask(put(document), groups(11, 0), groups(12, 0), groups(14, 0), groups(15, 0))[1:],
                         [[2, 0, 1], [2, 1, 0], [2, 1, 0], [2, 1, 1]])

    def test_above_1000(self):
        for document, width in ((group(row(THOUSAND, LINE, THOUSAND)), 2001), (group(row(THOUSAND, SOFT, A)), 1001),
                                (group(THOUSAND), 1000), (row(group(SOFT), THOUSAND, BLANK, THOUSAND), 2001),
                                (row(THOUSAND, aligned(row(HARD, PAIR))), 1003)):
            self.check(document, width)
            found = ask(put(document), groups(1000, 0))[1]
            self.assertEqual(found[1:], [1 if width <= 1000 else 0])

    def test_largest(self):
        # Most bytes, with a blank ahead of each text but one.
        some = row(*[text("aaaaaaaaaaaaaa"), LINE] * 140)
        most = group(row(named(0), named(0), text("aaaaaaaaaa")))
        self.assertEqual(ask(put(some), put(most), least(1))[2], [280 * 14 + 10 + 280])
        deep = row(A, [7, 8] * 36 + row(HARD, group(named(0))))
        self.assertEqual(ask(put([0, 900] + [98] * 900), put(deep), least(1))[2], [8 * 36 + 900])
        # Every line begins behind the end of the one before.
        steep = group(B)
        for count in range(8):
            steep = row([0, 300] + [97] * 300, aligned(indented(8, row(HARD, steep))))
        self.check(steep, 8 * 308 + 1)

    def test_by_name(self):
        self.assertEqual(ask(put(PAIR), put(row(named(0), text(";"))), least(0), least(1))[2:], [[3], [4]])

    def test_refusals(self):
        self.assertEqual(ask(least(0)), [[-2]])
        for k in FAR + (1, 2, 20):
            self.assertEqual(ask(put(PAIR), least(k))[1], [-2], k)
        self.assertEqual(ask(put(PAIR), drop(), least(0))[2], [-2])

    def test_leaves_all_as_it_was(self):
        asked = [put(PAIR), told(0), lay(2, 0), groups(3, 0)]
        plain = ask(*asked)
        self.assertEqual(ask(asked[0], least(0), *asked[1:], least(0)), plain[:1] + [[3]] + plain[1:] + [[3]])
        self.assertEqual(ask(put(PAIR), least(0), begin(5, 0), least(0)), [[0], [3], [1], [3]])


class ByGroupsTest(unittest.TestCase):
    """The answer is held against how the groups are laid within it, and within less."""

    def all_flat(self, flags, forced):
        return all(flag == 1 for flag, is_forced in zip(flags, forced, strict=True) if not is_forced)

    def test_made_documents(self):
        seen = {}
        for document in made_documents(800):
            answer = ask(put(document), least(0))[1][0]
            forced = forced_groups(tree(document)[0])
            seen[answer] = True
            within = ask(put(document), groups(answer, 0))[1][1:]
            self.assertTrue(self.all_flat(within, forced), document)
            if answer > 0:
                within_less = ask(put(document), groups(answer - 1, 0))[1][1:]
                self.assertFalse(self.all_flat(within_less, forced), document)
        self.assertGreater(len(seen), 30)

    def test_every_width(self):
        for document in made_documents(150):
            found = ask(put(document), least(0), *[groups(width, 0) for width in range(38)])
            forced = forced_groups(tree(document)[0])
            for width in range(38):
                self.assertEqual(self.all_flat(found[2 + width][1:], forced), width >= found[1][0], (document, width))


if __name__ == "__main__":
    unittest.main()
