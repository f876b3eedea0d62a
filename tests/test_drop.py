"""Point 2: drop."""

import unittest

from tests.helper import (BLANK, GAP, HARD, HUGE, LINE, SOFT, ask, back, begin, drop, group, indented, lay, look, named,
                          put, row, steps, text, told, written)
from widthlayout.documents import make_document
from widthlayout.reading import read_parts


class DropTest(unittest.TestCase):
    def test_down_to_none_and_once_more(self):
        self.assertEqual(ask(drop(), put(BLANK), put(SOFT), put(LINE), drop(), drop(), drop(), drop(), drop()),
                         [[-9], [0], [1], [2], [2], [1], [0], [-9], [-9]])

    def test_last_one_goes(self):
        self.assertEqual(ask(put(HARD), put(GAP), drop(), told(0), told(1)), [[0], [1], [1], [1, 4], [-2]])

    def test_number_given_anew(self):
        self.assertEqual(ask(put(BLANK), put(SOFT), drop(), put(text("a")), told(1), told(0)),
                         [[0], [1], [1], [1], [1, 0, 1, 97], [1, 1]])

    def test_from_twenty(self):
        found = ask(*[put(BLANK)] * 20, *[drop()] * 20)
        self.assertEqual(found[20:], [[left] for left in range(19, -1, -1)])

    def test_naming_one_is_as_it_was_when_others_go(self):
        found = ask(put(text("ab")), put(row(named(0), HARD, named(0))), put(named(1)), drop(), lay(9, 1), told(1),
                    put(text("zz")), lay(9, 1), told(1))
        self.assertEqual(found[4], [2, 2, 5, 97, 98, 10, 97, 98])
        self.assertEqual(found[5], [4, 6, 3, 0, 2, 97, 98, 4, 0, 2, 97, 98])
        self.assertEqual(found[7:], found[4:6])

    def test_number_given_anew_is_named_anew(self):
        found = ask(put(text("a")), put(named(0)), drop(), drop(), put(text("b")), put(row(named(0))), told(1))
        self.assertEqual(found[6], [2, 6, 1, 0, 1, 98])

    def test_naming_one_is_whole_without_the_named_one(self):
        # By the calls a document that names another goes before that one, so this is looked at beneath them.
        held = [make_document(read_parts(group(row(text("a"), LINE)), 0), [])]
        naming = make_document(read_parts(row(named(0), SOFT), 1), held)
        held.pop()
        held.append(make_document(read_parts(HARD, 0), []))
        self.assertEqual(naming.row_numbers(), row(group(row(text("a"), LINE)), SOFT))
        self.assertFalse(naming.forced[0])

    def test_laying_goes_on(self):
        word = group(row(text("ab"), indented(2, row(LINE, text("cd"))), SOFT))
        calls = [steps(2), look(), written(), steps(4), look(), written(), back(3), look(), steps(HUGE), look(),
                 written()]
        plain = ask(put(word), begin(4, 0), steps(1), *calls)[3:]
        self.assertEqual(plain[-1], [7, 97, 98, 10, 32, 32, 99, 100])
        self.assertEqual(ask(put(word), begin(4, 0), steps(1), drop(), *calls)[4:], plain)
        # Another one with the same number, with more and with fewer parts.
        for other in (HARD, row(*[text("zzz"), GAP] * 20)):
            self.assertEqual(ask(put(word), begin(4, 0), steps(1), drop(), put(other), *calls)[5:], plain)
            self.assertEqual(ask(put(word), begin(4, 0), drop(), put(other), steps(1), *calls)[5:], plain)
        self.assertEqual(ask(put(BLANK), put(word), begin(4, 1), steps(1), drop(), drop(), *calls)[6:], plain)

    def test_laying_of_one_that_names_another_goes_on(self):
        word = group(row(text("ab"), LINE))
        found = ask(put(word), put(row(named(0), named(0))), begin(9, 1), drop(), drop(), put(HARD), look(), steps(2),
                    look(), steps(HUGE), written(), back(1), written())
        self.assertEqual(found[6:], [[0, 0, 0, 0, 1, 6, 0, 0], [2, 2], [2, 0, 0, 0, 2, 6, 0, 1], [7, 0],
                                     [5, 97, 98, 32, 97, 98], [8], [5, 97, 98, 32, 97, 98]])

    def test_begin_behind_drop(self):
        found = ask(put(text("ab")), begin(9, 0), steps(1), drop(), begin(9, 0), written(), put(text("c")), written(),
                    begin(9, 0), written(), steps(1), written())
        self.assertEqual(found[3:], [[0], [-2], [2, 97, 98], [0], [2, 97, 98], [1], [0], [1, 0], [1, 99]])


if __name__ == "__main__":
    unittest.main()
